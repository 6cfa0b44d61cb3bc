/- MTagC: TagR TagS TagT TagU TagV TagW TagX -/
import Derived.Test.YthamfkbopjagdaaMTagB
import Derived.Test.YthamfkbopjagdaaMEncB
namespace Go.Proofs.Ythamfkbopjagdaa
set_option maxRecDepth 100000
set_option linter.unusedSimpArgs false
set_option linter.unusedVariables false
open Go.RowKit

theorem OwnB.new (w : World) (base : Nat) (l : List Int) (n : Nat) (hn : l.length = n) (hl : n ≤ maxLen) (hb : base ≤ w.heap.size) : OwnB (w.alloc (.cells (bvals l).toArray 5)) base (.slice (some ⟨w.heap.size, 0, none⟩) n n) l := by
  subst hn
  refine ⟨by simp [bvals], .inr ⟨w.heap.size, l.length, (bvals l).toArray, rfl, hb, heap_alloc_new w _, Nat.le_refl _, hl, by simp [bvals], by simp [bvals, List.take_of_length_le]⟩⟩
theorem right_bd {t : Bool} {b tp a p ty : Int} (h : rightC ⟨t, b, tp, a, p, ty⟩ = true) : (0 ≤ b ∧ b ≤ 4294967295) ∧ (0 ≤ tp ∧ tp ≤ 4294967295) ∧ (0 ≤ a ∧ a ≤ 4294967295) ∧ (0 ≤ p ∧ p ≤ 127) ∧ (0 ≤ ty ∧ ty ≤ 255) := by
  simp [rightC, rightB, holdsB] at h
  omega
theorem bytesC_list (t : Bool) (b tp a p ty : Int) : bytesC ⟨t, b, tp, a, p, ty⟩ = [a / 16777216 % 256, a / 65536 % 256, a / 256 % 256, a % 256, b / 16777216 % 256, b / 65536 % 256, b / 256 % 256, b % 256, tp / 16777216 % 256, tp / 65536 % 256, tp / 256 % 256, tp % 256, 0, p % 256, 0, ty % 256] := rfl
theorem num4_four {n : Int} (h : 0 ≤ n ∧ n ≤ 4294967295) : num4 (n / 16777216 % 256) (n / 65536 % 256) (n / 256 % 256) (n % 256) = n := by unfold num4; omega
theorem getL_bytes {t : Bool} {b tp a p ty : Int} (h : rightC ⟨t, b, tp, a, p, ty⟩ = true) (tag : Bool) : getL (bytesC ⟨t, b, tp, a, p, ty⟩) tag = ⟨tag && rightC ⟨true, b, tp, a, p, ty⟩, b, tp, a, p, ty⟩ := by
  obtain ⟨hb, htp, ha, hp, hty⟩ := right_bd h
  have e1 : bareC (bytesC ⟨t, b, tp, a, p, ty⟩) = ⟨false, b, tp, a, p, ty⟩ := by
    rw [bytesC_list, bare_cap, num4_four hb, num4_four htp, num4_four ha]
    rw [show p % 256 % 128 = p by omega, show ty % 256 = ty by omega]
  have e2 : wholeL (bytesC ⟨t, b, tp, a, p, ty⟩) = true := by
    rw [bytesC_list]
    show (decide ((0 : Int) = 0) && decide ((0 : Int) = 0) && decide (p % 256 ≤ 127)) = true
    simp
    omega
  unfold getL tagOf
  rw [e1, e2]
  simp
section
variable {w : World} {ops : Array Oper} {rest : List Oper} {o : Oper} {a : Act} {Q : Exit → Act → World → Prop}
theorem app_own_wp {K : Act → World → Prop} (s x : Operand) (ho : o.op = .call { callee := .builtin .append, args := #[s, x], argTypes := #[39, 39] })
    (base : Nat) (v : Value) (l : List Int) (hs : a.eval s = v) (hown : OwnB w base v l) (A : Option Addr) (m c : Nat) (news : List Int) (hx : a.eval x = .slice A m c) (hm : news.length = m) (hr : RdB w A news)
    (h0 : A = none → c = 0) (h63 : l.length + m ≤ 1000000) (hbase : base ≤ w.heap.size)
    (h : ∀ v' w', OwnB w' base v' (l ++ news) → w.grownBy w' v.ownBlock → K (a.put o.dst v') w') : o.wp Try.prog a w K Q := by
  obtain ⟨i, hi, hz0, hz1, hz2⟩ := info_parts info_u8
  subst hm
  cases A with
  | none =>
    have hn : news = [] := by
      rcases Nat.eq_zero_or_pos news.length with h1 | h1
      · exact List.eq_nil_of_length_eq_zero h1
      · obtain ⟨b, o', hA, _⟩ := hr h1
        cases hA
    subst hn
    obtain rfl := h0 rfl
    have hrun := run_append_owned_none (P := Try.prog) w base 39 o.type 5 i 1 Try.underlying39 hi v l.length (bvals l) hown
    unfold Oper.wp
    simp [execOp, ho, resolve, invoke, builtin, hs, hx, hrun, Result.andThen]
    exact h v w (by simpa using hown) (World.grownBy.refl _ _)
  | some ad =>
    refine wp_append_own w s x 39 ho base 5 i _ 1 1 Try.underlying39 hi hz0 hz1 hz2 rfl (by decide) v l.length (bvals l) hs hown ad news.length c (bvals news) hx (by simp [bvals_length]) (fun j u hj => ?_) (bvals_one news) (by unfold maxLen; omega) (by omega) hbase fun v' w' h2 h3 _ => h v' w' (OwnB.more h2) h3
    have hlt : j < news.length := by simpa [bvals] using (List.getElem?_eq_some_iff.1 hj).1
    obtain ⟨b, o', hA, _, hc⟩ := hr (by omega)
    cases hA
    rw [Addr.add_lit, hc j hlt]
    simpa [bvals, hlt] using hj
theorem app_own (hgd : o.guard = none) (s x : Operand) (ho : o.op = .call { callee := .builtin .append, args := #[s, x], argTypes := #[39, 39] })
    (base : Nat) (v : Value) (l : List Int) (hs : a.eval s = v) (hown : OwnB w base v l) (A : Option Addr) (m c : Nat) (news : List Int) (hx : a.eval x = .slice A m c) (hm : news.length = m) (hr : RdB w A news)
    (h0 : A = none → c = 0) (h63 : l.length + m ≤ 1000000) (hbase : base ≤ w.heap.size)
    (h : ∀ v' w', OwnB w' base v' (l ++ news) → w.grownBy w' v.ownBlock → wpList Try.prog ops Q rest (a.put o.dst v') w') : wpList Try.prog ops Q (o :: rest) a w :=
  wpList_plain hgd fun K hK => app_own_wp s x ho base v l hs hown A m c news hx hm hr h0 h63 hbase fun v' w' h1 h2 => hK _ _ (h v' w' h1 h2)
end
theorem hLcAny (w W : World) (q g n : Nat) (B : Nat → Int) (T D : Nat → Bool) (h : HM w W q g n B T D) (x : Int) (hs : placeP n x) : Calls Try.prog 42 #[.pointer (some ⟨q, 0, none⟩), .int .i64 x] W fun e W' => ∃ c : Cap, e = .returned (.tuple #[.agg #[.bool (c).tag, .int .i64 (c).base, .int .i64 (c).top, .int .i64 (c).at_, .int .i64 (c).perms, .int .i64 (c).type], .bool true]) ∧ Hid (HM w W' q g n B T D) ∧ Hid (Ext W W') := by
  obtain ⟨p, i, hp, hi, hx⟩ := placeP_parts hs
  refine (tlc_yes q g n B T D W h.1 x p i hp hi hx).mono ?_
  rintro e W' ⟨rfl, hx⟩
  exact ⟨_, rfl, hid (h.ext hx), hid hx⟩
theorem hLcOf (w W : World) (q g n : Nat) (B : Nat → Int) (T D : Nat → Bool) (h : HM w W q g n B T D) (x : Int) (p i : Nat) (hp : p < n) (hi : i < 16) (hx : x = 256 * (p : Int) + 16 * (i : Int)) (c : Cap) (hc : getL (bytesAt B (256 * p + 16 * i) 16) (T (16 * p + i)) = c) : Calls Try.prog 42 #[.pointer (some ⟨q, 0, none⟩), .int .i64 x] W fun e W' => e = .returned (.tuple #[.agg #[.bool (c).tag, .int .i64 (c).base, .int .i64 (c).top, .int .i64 (c).at_, .int .i64 (c).perms, .int .i64 (c).type], .bool true]) ∧ Hid (HM w W' q g n B T D) ∧ Hid (Ext W W') := by
  refine (tlc_yes q g n B T D W h.1 x p i hp hi hx).mono ?_
  rw [hc]
  rintro e W' ⟨rfl, hx⟩
  exact ⟨rfl, hid (h.ext hx), hid hx⟩
theorem bytesAt_ext {B B' : Nat → Int} {a m : Nat} (h : ∀ j, j < m → B (a + j) = B' (a + j)) : bytesAt B a m = bytesAt B' a m := by
  unfold bytesAt
  exact List.map_congr_left fun j hj => h j (List.mem_range.1 hj)
theorem bytesAt_put {B : Nat → Int} {a : Nat} {l : List Int} {m : Nat} (hm : l.length = m) : bytesAt (putB B a l) a m = l := by
  subst hm
  apply List.ext_getElem
  · rw [bytesAt_length]
  · intro j h1 h2
    rw [bytesAt_get]
    unfold putB
    rw [if_pos (by omega), List.getD_eq_getElem?_getD, show a + j - a = j by omega, List.getElem?_eq_getElem h2]
    rfl
/-- What a capability's bytes, where they were laid, tell. -/
theorem getL_put {B : Nat → Int} {T : Nat → Bool} {a k : Nat} {t : Bool} {b tp at_ pm ty : Int} (hr : rightC ⟨t, b, tp, at_, pm, ty⟩ = true) : getL (bytesAt (putB B a (bytesC ⟨t, b, tp, at_, pm, ty⟩)) a 16) (upd1 T k t k) = ⟨t, b, tp, at_, pm, ty⟩ := by
  rw [bytesAt_put (bytesC_length _), upd1_self, getL_bytes hr]
  cases t with
  | false => rfl
  | true => rw [hr]; rfl
/-- An own row of bytes. -/
structure OwnD (w : World) (h : Nat) (l : List Int) : Prop where
  lt : h < w.heap.size
  free : ∀ x, w.frozen? ⟨h, x, none⟩ = false
  at_ : ∀ j (hj : j < l.length), w.cell? ⟨h, j, none⟩ = some (.int .u8 l[j])
theorem OwnD.only {S : Nat → Prop} {w w' : World} {h : Nat} {l : List Int} (k : OwnD w h l) (x : Only S w w') (hs : ¬ S h) : OwnD w' h l :=
  ⟨Nat.lt_of_lt_of_le k.lt x.size, fun y => (x.frozens h _ k.lt hs).trans (k.free y), fun j hj => (x.cells h _ k.lt hs).trans (k.at_ j hj)⟩
theorem OwnD.ext {w w' : World} {h : Nat} {l : List Int} (k : OwnD w h l) (x : Ext w w') : OwnD w' h l := k.only (Only.ofExt (S := fun _ => False) x) id
theorem OwnD.rd {w : World} {h : Nat} {l : List Int} (k : OwnD w h l) : RdB w (some ⟨h, 0, none⟩) l := fun _ => ⟨h, 0, rfl, k.lt, fun j hj => by rw [Nat.zero_add]; exact k.at_ j hj⟩
theorem OwnD.set {w : World} {h : Nat} {l : List Int} (k : OwnD w h l) (i : Nat) (hi : i < l.length) (v : Int) : OwnD (w.setCell ⟨h, i, none⟩ (.int .u8 v)) h (l.set i v) := by
  refine ⟨by rw [World.size_setCell]; exact k.lt, fun y => by rw [World.frozen?_setCell]; exact k.free y, fun j hj => ?_⟩
  have hj' : j < l.length := by rwa [List.length_set] at hj
  by_cases e : j = i
  · subst e
    rw [cell_setCell_self, k.at_ j hj']
    simp
  · rw [cell_setCell_far _ _ _ _ _ _ (by omega), k.at_ j hj', List.getElem_set_ne (by omega)]
theorem OwnB.ownD {w : World} {base : Nat} {v : Value} {l : List Int} (h : OwnB w base v l) (h0 : 0 < l.length) : ∃ g c, v = .slice (some ⟨g, 0, none⟩) l.length c ∧ l.length ≤ c ∧ c ≤ maxLen ∧ base ≤ g ∧ OwnD w g l := by
  obtain ⟨q, ca, hv, h1, h2, h3, hr⟩ := h.rd2 h0
  obtain ⟨g, o, e, _, h4, h5, h6⟩ := (ownsAt_of h).at_ hv (by omega)
  have e1 : q = g := congrArg (fun x : Option Addr => (x.getD ⟨0, 0, none⟩).block) e
  have e2 : 0 = o * 1 := congrArg (fun x : Option Addr => (x.getD ⟨0, 0, none⟩).off) e
  subst e1
  refine ⟨_, ca, hv, h1, h2, h3, h4, h6, fun j hj => ?_⟩
  have := h5 j (.int .u8 l[j]) (by unfold bvals; rw [List.getElem?_map, List.getElem?_eq_getElem hj]; rfl)
  rwa [← e2, Nat.zero_add] at this
theorem putB_step (B : Nat → Int) (a i : Nat) (l : List Int) (hi : i < l.length) (m : Nat) (hm : a + l.length ≤ m) : (bytesAt (putB B a (l.take i)) 0 m).set (a + i) l[i] = bytesAt (putB B a (l.take (i + 1))) 0 m := by
  apply List.ext_getElem
  · rw [List.length_set, bytesAt_length, bytesAt_length]
  · intro j h1 h2
    rw [bytesAt_length] at h2
    rw [bytesAt_get, Nat.zero_add]
    by_cases e : j = a + i
    · subst e
      rw [List.getElem_set_self]
      unfold putB
      rw [List.length_take, Nat.min_eq_left (by omega), if_pos (by omega), List.getD_eq_getElem?_getD, show a + i - a = i by omega, List.getElem?_take_of_lt (by omega), List.getElem?_eq_getElem hi]
      rfl
    · rw [List.getElem_set_ne (by omega), bytesAt_get, Nat.zero_add]
      unfold putB
      rw [List.length_take, List.length_take, Nat.min_eq_left (by omega), Nat.min_eq_left (by omega)]
      by_cases c : a ≤ j ∧ j < a + i
      · rw [if_pos c, if_pos (by omega), List.getD_eq_getElem?_getD, List.getD_eq_getElem?_getD, List.getElem?_take_of_lt (by omega), List.getElem?_take_of_lt (by omega)]
      · rw [if_neg c, if_neg (by omega)]
/-- string(bytes) among what a region reads in which one block turns. -/
theorem quiet_strT {q : Nat} {P : Program} {o : Oper} {a : Act} {w : World} {K : Act → Prop} (src dst e : TypeId) (x : Operand) (ho : o.op = .convert src dst x) (hs : P.underlying src = some (.slice e)) (he : P.underlying e = some (.int .u8))
    (hd : P.underlying dst = some .string) (A : Option Addr) (c n : Nat) (l : List Int) (hx : a.eval x = .slice A n c) (hn : n = l.length) (hr : RdB w A l) (hA : ∀ b o, A = some ⟨b, o, none⟩ → ¬ b = q) (h0 : l = [] → A = none) (k : K (a.put o.dst (.string (strOf l)))) : o.quiet P a (Turned q w) K := by
  subst hn
  refine ⟨_, fun w' hw' => ?_, k⟩
  obtain ⟨x, rfl⟩ := hw'
  have hr' : RdB (Go.Proofs.Ythamfkbopjagdaa.grow (turn w q x.obj) x.d) A l := fun h0 => by
    obtain ⟨b, o', hA', hb, hc⟩ := hr h0
    refine ⟨b, o', hA', by rw [grow_size, turn_size]; omega, fun j hj => ?_⟩
    rw [grow_cell _ _ _ _ (by rw [turn_size]; exact hb), turn_cell _ _ _ _ _ (hA b o' hA')]
    exact hc j hj
  have h1 := run_str_any (P := P) (Go.Proofs.Ythamfkbopjagdaa.grow (turn w q x.obj) x.d) src dst e hs he hd A c l hr' h0
  unfold Oper.quietAt execOp
  rw [ho]
  simp [hx, h1, Sem.run_bind, Sem.run_pure, Result.andThen, Oper.quietUpon]
  try exact ⟨x, rfl⟩
end Go.Proofs.Ythamfkbopjagdaa

namespace Go.Proofs.Ythamfkbopjagdaa
set_option maxRecDepth 100000
set_option linter.unusedSimpArgs false
set_option linter.unusedVariables false
open Go.RowKit

/-- The document's memory: its block, its bytes', tags' and pages' blocks. -/
structure Rm (w : World) (r gb gt gp n nb nt : Nat) (B : Nat → Int) (T D : Nat → Bool) : Prop where
  lr : r < w.heap.size
  lb : gb < w.heap.size
  lt : gt < w.heap.size
  lp : gp < w.heap.size
  ne : ¬ r = gb ∧ ¬ r = gt ∧ ¬ r = gp ∧ ¬ gb = gt ∧ ¬ gb = gp ∧ ¬ gt = gp
  c0 : w.cell? ⟨r, 0, none⟩ = some (.slice (some ⟨gb, 0, none⟩) nb nb)
  c1 : w.cell? ⟨r, 1, none⟩ = some (.slice (some ⟨gt, 0, none⟩) nt nt)
  c2 : w.cell? ⟨r, 2, none⟩ = some (.slice (some ⟨gp, 0, none⟩) n n)
  by_ : ∀ a, a < nb → w.cell? ⟨gb, a, none⟩ = some (.int .u8 (B a)) ∧ w.frozen? ⟨gb, a, none⟩ = false
  tg : ∀ t, t < nt → w.cell? ⟨gt, t, none⟩ = some (.bool (T t)) ∧ w.frozen? ⟨gt, t, none⟩ = false
  dt : ∀ p, p < n → w.cell? ⟨gp, p, none⟩ = some (.bool (D p)) ∧ w.frozen? ⟨gp, p, none⟩ = false
  bd : 1 ≤ n ∧ n ≤ 65536
  eb : nb = 256 * n
  et : nt = 16 * n
  rg : ∀ a, 0 ≤ B a ∧ B a ≤ 255
def Tri (gb gt gp i : Nat) : Prop := i = gb ∨ i = gt ∨ i = gp
section
variable {S : Nat → Prop} {w w' : World} {r gb gt gp n nb nt : Nat} {B : Nat → Int} {T D : Nat → Bool}
theorem Rm.only (h : Rm w r gb gt gp n nb nt B T D) (x : Only S w w') (h0 : ¬ S r) (h1 : ¬ S gb) (h2 : ¬ S gt) (h3 : ¬ S gp) : Rm w' r gb gt gp n nb nt B T D :=
  ⟨Nat.lt_of_lt_of_le h.lr x.size, Nat.lt_of_lt_of_le h.lb x.size, Nat.lt_of_lt_of_le h.lt x.size, Nat.lt_of_lt_of_le h.lp x.size, h.ne,
    (x.cells r _ h.lr h0).trans h.c0, (x.cells r _ h.lr h0).trans h.c1, (x.cells r _ h.lr h0).trans h.c2,
    fun a ha => ⟨(x.cells gb _ h.lb h1).trans (h.by_ a ha).1, (x.frozens gb _ h.lb h1).trans (h.by_ a ha).2⟩,
    fun a ha => ⟨(x.cells gt _ h.lt h2).trans (h.tg a ha).1, (x.frozens gt _ h.lt h2).trans (h.tg a ha).2⟩,
    fun a ha => ⟨(x.cells gp _ h.lp h3).trans (h.dt a ha).1, (x.frozens gp _ h.lp h3).trans (h.dt a ha).2⟩, h.bd, h.eb, h.et, h.rg⟩
theorem Rm.ext (h : Rm w r gb gt gp n nb nt B T D) (x : Ext w w') : Rm w' r gb gt gp n nb nt B T D := h.only (Only.ofExt (S := fun _ => False) x) id id id id
theorem upd1_cell {q m : Nat} {α : Type} {f : Nat → α} {V : α → Value} (h : ∀ i, i < m → w.cell? ⟨q, i, none⟩ = some (V (f i)) ∧ w.frozen? ⟨q, i, none⟩ = false) {i : Nat} (hi : i < m) (v : α) :
    ∀ j, j < m → (w.setCell ⟨q, i, none⟩ (V v)).cell? ⟨q, j, none⟩ = some (V (upd1 f i v j)) ∧ (w.setCell ⟨q, i, none⟩ (V v)).frozen? ⟨q, j, none⟩ = false := fun j hj => by
  refine ⟨?_, by rw [World.frozen?_setCell]; exact (h j hj).2⟩
  by_cases e : j = i
  · subst e
    rw [cell_setCell_self, (h j hj).1, upd1_self]
    rfl
  · rw [cell_setCell_far _ _ _ _ _ _ (by omega), (h j hj).1, upd1_ne _ _ e]
theorem far_cell {q m q' i : Nat} {v : Value} {C : Nat → Value} (h : ∀ i, i < m → w.cell? ⟨q, i, none⟩ = some (C i) ∧ w.frozen? ⟨q, i, none⟩ = false) (hq : ¬ q = q') :
    ∀ j, j < m → (w.setCell ⟨q', i, none⟩ v).cell? ⟨q, j, none⟩ = some (C j) ∧ (w.setCell ⟨q', i, none⟩ v).frozen? ⟨q, j, none⟩ = false := fun j hj =>
  ⟨by rw [cell_setCell_far _ _ _ _ _ _ (fun e => hq e.1)]; exact (h j hj).1, by rw [World.frozen?_setCell]; exact (h j hj).2⟩
theorem Rm.setB (h : Rm w r gb gt gp n nb nt B T D) {a : Nat} (ha : a < nb) {v : Int} (hv : 0 ≤ v ∧ v ≤ 255) : Rm (w.setCell ⟨gb, a, none⟩ (.int .u8 v)) r gb gt gp n nb nt (upd1 B a v) T D := by
  obtain ⟨e1, e2, e3, e4, e5, e6⟩ := h.ne
  refine ⟨by rw [World.size_setCell]; exact h.lr, by rw [World.size_setCell]; exact h.lb, by rw [World.size_setCell]; exact h.lt, by rw [World.size_setCell]; exact h.lp, h.ne, ?_, ?_, ?_, upd1_cell (V := Value.int .u8) h.by_ ha v, far_cell h.tg (fun e => e4 e.symm), far_cell h.dt (fun e => e5 e.symm), h.bd, h.eb, h.et, fun y => ?_⟩
  · rw [cell_setCell_far _ _ _ _ _ _ (fun e => e1 e.1)]; exact h.c0
  · rw [cell_setCell_far _ _ _ _ _ _ (fun e => e1 e.1)]; exact h.c1
  · rw [cell_setCell_far _ _ _ _ _ _ (fun e => e1 e.1)]; exact h.c2
  · unfold upd1
    split
    · exact hv
    · exact h.rg y
theorem Rm.setT (h : Rm w r gb gt gp n nb nt B T D) {a : Nat} (ha : a < nt) (v : Bool) : Rm (w.setCell ⟨gt, a, none⟩ (.bool v)) r gb gt gp n nb nt B (upd1 T a v) D := by
  obtain ⟨e1, e2, e3, e4, e5, e6⟩ := h.ne
  refine ⟨by rw [World.size_setCell]; exact h.lr, by rw [World.size_setCell]; exact h.lb, by rw [World.size_setCell]; exact h.lt, by rw [World.size_setCell]; exact h.lp, h.ne, ?_, ?_, ?_, far_cell h.by_ e4, upd1_cell (V := Value.bool) h.tg ha v, far_cell h.dt (fun e => e6 e.symm), h.bd, h.eb, h.et, h.rg⟩
  · rw [cell_setCell_far _ _ _ _ _ _ (fun e => e2 e.1)]; exact h.c0
  · rw [cell_setCell_far _ _ _ _ _ _ (fun e => e2 e.1)]; exact h.c1
  · rw [cell_setCell_far _ _ _ _ _ _ (fun e => e2 e.1)]; exact h.c2
theorem Rm.setD (h : Rm w r gb gt gp n nb nt B T D) {a : Nat} (ha : a < n) (v : Bool) : Rm (w.setCell ⟨gp, a, none⟩ (.bool v)) r gb gt gp n nb nt B T (upd1 D a v) := by
  obtain ⟨e1, e2, e3, e4, e5, e6⟩ := h.ne
  refine ⟨by rw [World.size_setCell]; exact h.lr, by rw [World.size_setCell]; exact h.lb, by rw [World.size_setCell]; exact h.lt, by rw [World.size_setCell]; exact h.lp, h.ne, ?_, ?_, ?_, far_cell h.by_ e5, far_cell h.tg e6, upd1_cell (V := Value.bool) h.dt ha v, h.bd, h.eb, h.et, h.rg⟩
  · rw [cell_setCell_far _ _ _ _ _ _ (fun e => e3 e.1)]; exact h.c0
  · rw [cell_setCell_far _ _ _ _ _ _ (fun e => e3 e.1)]; exact h.c1
  · rw [cell_setCell_far _ _ _ _ _ _ (fun e => e3 e.1)]; exact h.c2
end
set_option maxRecDepth 100000 in
set_option maxHeartbeats 4000000 in
theorem rmplace_yes (r gb gt gp n nb nt : Nat) (B : Nat → Int) (T D : Nat → Bool) (w : World) (h : Rm w r gb gt gp n nb nt B T D) (x : Int) (hc : placeP n x) : Calls Try.prog 52 #[.pointer (some ⟨r, 0, none⟩), .int .i64 x] w fun e w' => e = .returned (.bool true) ∧ w = w' := by
  have HH := hid h
  have c0 := h.c0
  have hlr := h.lr
  have hlb := h.lb
  have hlt := h.lt
  have hlp := h.lp
  have hbd := h.bd
  have heb : nb ≤ 16777216 := by have := h.eb; omega
  have het : nt ≤ 1048576 := by have := h.et; omega
  obtain ⟨e1, e2, e3, e4, e5, e6⟩ := h.ne
  have h0 : (0 : Int) ≤ x := hc.2.1
  have h1 : x < (nb : Int) := by have := hc.2.2; have := h.eb; have := hc.1; omega
  have h2 : (x % 16 == 0) = true := by rw [beq_iff_eq]; exact hc.1
  have h3 : (x.tmod 16 == 0) = true := by rw [Int.tmod_eq_emod_of_nonneg h0]; exact h2
  clear hc h
  go_enter Try.func52, Try.ntmps52
  go_wp2
  go_ret
  exact ⟨rfl, rfl⟩
set_option maxRecDepth 100000 in
set_option maxHeartbeats 4000000 in
theorem rmplace_no (r gb gt gp n nb nt : Nat) (B : Nat → Int) (T D : Nat → Bool) (w : World) (h : Rm w r gb gt gp n nb nt B T D) (x : Int) (hc : ¬ placeP n x) : Calls Try.prog 52 #[.pointer (some ⟨r, 0, none⟩), .int .i64 x] w fun e w' => e = .returned (.bool false) ∧ w = w' := by
  have HH := hid h
  have c0 := h.c0
  have hlr := h.lr
  have hlb := h.lb
  have hlt := h.lt
  have hlp := h.lp
  have hbd := h.bd
  have heb : nb ≤ 16777216 := by have := h.eb; omega
  have het : nt ≤ 1048576 := by have := h.et; omega
  obtain ⟨e1, e2, e3, e4, e5, e6⟩ := h.ne
  have hebq := HH.out.eb
  by_cases h0 : (0 : Int) ≤ x
  · by_cases h1 : x < (nb : Int)
    · have h2 : (x % 16 == 0) = false := by rw [beq_eq_false_iff_ne]; exact fun e => hc ⟨e, h0, by omega⟩
      have h3 : (x.tmod 16 == 0) = false := by rw [Int.tmod_eq_emod_of_nonneg h0]; exact h2
      clear hc h hebq
      go_enter Try.func52, Try.ntmps52
      go_wp2
      go_ret
      exact ⟨rfl, rfl⟩
    · clear hc h hebq
      go_enter Try.func52, Try.ntmps52
      go_wp2
      go_ret
      exact ⟨rfl, rfl⟩
  · clear hc h hebq
    go_enter Try.func52, Try.ntmps52
    go_wp2
    go_ret
    exact ⟨rfl, rfl⟩
set_option maxRecDepth 100000 in
set_option maxHeartbeats 4000000 in
theorem rmtag_yes (r gb gt gp n nb nt : Nat) (B : Nat → Int) (T D : Nat → Bool) (w : World) (h : Rm w r gb gt gp n nb nt B T D) (x : Int) (t : Nat) (ht : t < 16 * n) (hx : x = 16 * (t : Int)) : Calls Try.prog 84 #[.pointer (some ⟨r, 0, none⟩), .int .i64 x] w fun e w' => e = .returned (.bool (T t)) ∧ w = w' := by
  have HH := hid h
  have c1 := h.c1
  have hlr := h.lr
  have hlb := h.lb
  have hlt := h.lt
  have hlp := h.lp
  have hbd := h.bd
  have heb : nb ≤ 16777216 := by have := h.eb; omega
  have het : nt ≤ 1048576 := by have := h.et; omega
  obtain ⟨e1, e2, e3, e4, e5, e6⟩ := h.ne
  have hpl : Hid (placeP n x) := hid ⟨by omega, by omega, by omega⟩
  have h0 : (0 : Int) ≤ x := by omega
  have hxb : x ≤ 16777216 := by omega
  have hq : x / 16 = (t : Int) := by omega
  have htn : t < nt := by have := HH.out.et; omega
  have hti : (t : Int) < (nt : Int) := by omega
  have ht0 : (0 : Int) ≤ (t : Int) := by omega
  have htg := (h.tg t htn).1
  generalize T t = tv at htg ⊢
  clear h hx ht
  go_enter Try.func84, Try.ntmps84
  go_wp2_with (go_at_call 52; refine (rmplace_yes r gb gt gp n nb nt B T D _ HH.out x hpl.out).mono ?_; rintro e w1 ⟨rfl, rfl⟩)
  go_ret
  exact ⟨rfl, rfl⟩
set_option maxRecDepth 100000 in
set_option maxHeartbeats 4000000 in
theorem rmtag_no (r gb gt gp n nb nt : Nat) (B : Nat → Int) (T D : Nat → Bool) (w : World) (h : Rm w r gb gt gp n nb nt B T D) (x : Int) (hc : ¬ placeP n x) : Calls Try.prog 84 #[.pointer (some ⟨r, 0, none⟩), .int .i64 x] w fun e w' => e = .returned (.bool false) ∧ w = w' := by
  have HH := hid h
  have c1 := h.c1
  have hlr := h.lr
  have hlb := h.lb
  have hlt := h.lt
  have hlp := h.lp
  have hbd := h.bd
  have heb : nb ≤ 16777216 := by have := h.eb; omega
  have het : nt ≤ 1048576 := by have := h.et; omega
  obtain ⟨e1, e2, e3, e4, e5, e6⟩ := h.ne
  have HC := hid hc
  clear hc h
  go_enter Try.func84, Try.ntmps84
  go_wp2_with (go_at_call 52; refine (rmplace_no r gb gt gp n nb nt B T D _ HH.out x HC.out).mono ?_; rintro e w1 ⟨rfl, rfl⟩)
  go_ret
  exact ⟨rfl, rfl⟩
set_option maxRecDepth 100000 in
set_option maxHeartbeats 4000000 in
theorem rmstrip_yes (r gb gt gp n nb nt : Nat) (B : Nat → Int) (T D : Nat → Bool) (w : World) (h : Rm w r gb gt gp n nb nt B T D) (x : Int) (t : Nat) (ht : t < 16 * n) (hx : x = 16 * (t : Int)) (htv : T t = true) : Calls Try.prog 74 #[.pointer (some ⟨r, 0, none⟩), .int .i64 x] w fun e w' => e = .returned (.bool true) ∧ Hid (Rm w' r gb gt gp n nb nt B (upd1 T t false) D) ∧ Hid (Only (Tri gb gt gp) w w') := by
  have HH := hid h
  have c1 := h.c1
  have hlr := h.lr
  have hlb := h.lb
  have hlt := h.lt
  have hlp := h.lp
  have hbd := h.bd
  have heb : nb ≤ 16777216 := by have := h.eb; omega
  have het : nt ≤ 1048576 := by have := h.et; omega
  obtain ⟨e1, e2, e3, e4, e5, e6⟩ := h.ne
  have hpl : Hid (placeP n x) := hid ⟨by omega, by omega, by omega⟩
  have h0 : (0 : Int) ≤ x := by omega
  have hxb : x ≤ 16777216 := by omega
  have hq : x / 16 = (t : Int) := by omega
  have htn : t < nt := by have := HH.out.et; omega
  have hti : (t : Int) < (nt : Int) := by omega
  have ht0 : (0 : Int) ≤ (t : Int) := by omega
  have HT := hid ht
  have HX := hid hx
  have HTV := hid htv
  have htg := (h.tg t htn).1
  have hfz := (h.tg t htn).2
  have HM := hid (h.setT htn false)
  have HO : Hid (Only (Tri gb gt gp) w (w.setCell ⟨gt, t, none⟩ (.bool false))) := hid (Only.setCell (Only.refl _ _) (.inl (.inr (.inl rfl))) _)
  rw [htv] at htg
  clear h hx ht htv
  go_enter Try.func74, Try.ntmps74
  go_wp2_with (go_at_call 84; refine (rmtag_yes r gb gt gp n nb nt B T D _ HH.out x t HT.out HX.out).mono ?_; rw [HTV.out]; rintro e w1 ⟨rfl, rfl⟩)
  go_ret
  exact ⟨rfl, HM, HO⟩
set_option maxRecDepth 100000 in
set_option maxHeartbeats 4000000 in
theorem rmstrip_no1 (r gb gt gp n nb nt : Nat) (B : Nat → Int) (T D : Nat → Bool) (w : World) (h : Rm w r gb gt gp n nb nt B T D) (x : Int) (t : Nat) (ht : t < 16 * n) (hx : x = 16 * (t : Int)) (htv : T t = false) : Calls Try.prog 74 #[.pointer (some ⟨r, 0, none⟩), .int .i64 x] w fun e w' => e = .returned (.bool false) ∧ w = w' := by
  have HH := hid h
  have c1 := h.c1
  have hlr := h.lr
  have hlb := h.lb
  have hlt := h.lt
  have hlp := h.lp
  have hbd := h.bd
  have heb : nb ≤ 16777216 := by have := h.eb; omega
  have het : nt ≤ 1048576 := by have := h.et; omega
  obtain ⟨e1, e2, e3, e4, e5, e6⟩ := h.ne
  have hpl : Hid (placeP n x) := hid ⟨by omega, by omega, by omega⟩
  have h0 : (0 : Int) ≤ x := by omega
  have hxb : x ≤ 16777216 := by omega
  have hq : x / 16 = (t : Int) := by omega
  have htn : t < nt := by have := HH.out.et; omega
  have hti : (t : Int) < (nt : Int) := by omega
  have ht0 : (0 : Int) ≤ (t : Int) := by omega
  have HT := hid ht
  have HX := hid hx
  have HTV := hid htv
  clear h hx ht htv
  go_enter Try.func74, Try.ntmps74
  go_wp2_with (go_at_call 84; refine (rmtag_yes r gb gt gp n nb nt B T D _ HH.out x t HT.out HX.out).mono ?_; rw [HTV.out]; rintro e w1 ⟨rfl, rfl⟩)
  go_ret
  exact ⟨rfl, rfl⟩
set_option maxRecDepth 100000 in
set_option maxHeartbeats 4000000 in
theorem rmstrip_no2 (r gb gt gp n nb nt : Nat) (B : Nat → Int) (T D : Nat → Bool) (w : World) (h : Rm w r gb gt gp n nb nt B T D) (x : Int) (hc : ¬ placeP n x) : Calls Try.prog 74 #[.pointer (some ⟨r, 0, none⟩), .int .i64 x] w fun e w' => e = .returned (.bool false) ∧ w = w' := by
  have HH := hid h
  have c1 := h.c1
  have hlr := h.lr
  have hlb := h.lb
  have hlt := h.lt
  have hlp := h.lp
  have hbd := h.bd
  have heb : nb ≤ 16777216 := by have := h.eb; omega
  have het : nt ≤ 1048576 := by have := h.et; omega
  obtain ⟨e1, e2, e3, e4, e5, e6⟩ := h.ne
  have HC := hid hc
  clear hc h
  go_enter Try.func74, Try.ntmps74
  go_wp2_with (go_at_call 84; refine (rmtag_no r gb gt gp n nb nt B T D _ HH.out x HC.out).mono ?_; rintro e w1 ⟨rfl, rfl⟩)
  go_ret
  exact ⟨rfl, rfl⟩
def RLdIs (w : World) (B : Nat → Int) (a m : Nat) (e : Ending) (w' : World) : Prop := ∃ A ca, e = .returned (.tuple #[.slice A m ca, .bool true]) ∧ Hid (RdB w' A (bytesAt B a m)) ∧ Hid (Ext w w') ∧ Hid (A = none ∧ m = 0 ∨ ∃ g, A = some ⟨g, 0, none⟩ ∧ w.heap.size ≤ g)
theorem OwnB.rd3 {w : World} {base : Nat} {v : Value} {l : List Int} (h : OwnB w base v l) : ∃ A ca, v = .slice A l.length ca ∧ RdB w A l ∧ (A = none ∧ l.length = 0 ∨ ∃ g, A = some ⟨g, 0, none⟩ ∧ base ≤ g) := by
  rcases Nat.eq_zero_or_pos l.length with h0 | h0
  · rcases h.2 with ⟨hv, _⟩ | ⟨g, cap, cur, hv, hb, _⟩
    · exact ⟨none, 0, by rw [h0]; exact hv, fun k => absurd k (by omega), .inl ⟨rfl, h0⟩⟩
    · exact ⟨_, cap, hv, fun k => absurd k (by omega), .inr ⟨g, rfl, hb⟩⟩
  · obtain ⟨q, ca, hv, h1, h2, h3, hr⟩ := h.rd2 h0
    exact ⟨_, ca, hv, hr, .inr ⟨q, rfl, h3⟩⟩
theorem Rm.rd {w : World} {r gb gt gp n nb nt : Nat} {B : Nat → Int} {T D : Nat → Bool} (h : Rm w r gb gt gp n nb nt B T D) (a m : Nat) (hfit : a + m ≤ nb) : RdB w (some ⟨gb, a, none⟩) (bytesAt B a m) := fun _ =>
  ⟨gb, a, rfl, h.lb, fun j hj => by rw [bytesAt_get]; rw [bytesAt_length] at hj; exact (h.by_ (a + j) (by omega)).1⟩
end Go.Proofs.Ythamfkbopjagdaa

namespace Go.Proofs.Ythamfkbopjagdaa
set_option maxRecDepth 100000
set_option linter.unusedSimpArgs false
set_option linter.unusedVariables false
open Go.RowKit

theorem putB_next (B : Nat → Int) (a k : Nat) (l : List Int) (hk : k < l.length) : upd1 (putB B a (l.take k)) (a + k) l[k] = putB B a (l.take (k + 1)) := by
  funext y
  unfold upd1 putB
  rw [List.length_take, List.length_take, Nat.min_eq_left (by omega), Nat.min_eq_left (by omega)]
  by_cases e : y = a + k
  · subst e
    rw [if_pos rfl, if_pos (by omega), List.getD_eq_getElem?_getD, show a + k - a = k by omega, List.getElem?_take_of_lt (by omega), List.getElem?_eq_getElem hk]
    rfl
  · rw [if_neg e]
    by_cases c : a ≤ y ∧ y < a + k
    · rw [if_pos c, if_pos (by omega), List.getD_eq_getElem?_getD, List.getD_eq_getElem?_getD, List.getElem?_take_of_lt (by omega), List.getElem?_take_of_lt (by omega)]
    · rw [if_neg c, if_neg (by omega)]
theorem clrT_next (T : Nat → Bool) (a k : Nat) : upd1 (clrT T a k) ((a + k) / 16) false = clrT T a (k + 1) := by
  funext t
  unfold upd1 clrT
  by_cases e : t = (a + k) / 16
  · rw [if_pos e]
    have h : decide (16 * t < a + (k + 1) ∧ a < 16 * t + 16 ∧ 0 < k + 1) = true := decide_eq_true (by omega)
    rw [h]
    simp
  · rw [if_neg e]
    congr 2
    exact decide_eq_decide.2 (by omega)
set_option maxRecDepth 100000 in
set_option maxHeartbeats 4000000 in
theorem rmstore_no (r gb gt gp n nb nt : Nat) (B : Nat → Int) (T D : Nat → Bool) (w : World) (h : Rm w r gb gt gp n nb nt B T D) (x : Int) (A : Option Addr) (m ca : Nat) (hc : ¬ spanP n x m) : Calls Try.prog 17 #[.pointer (some ⟨r, 0, none⟩), .int .i64 x, .slice A m ca] w fun e w' => e = .returned (.bool false) ∧ w = w' := by
  have HH := hid h
  have c0 := h.c0
  have hlr := h.lr
  have hlb := h.lb
  have hlt := h.lt
  have hlp := h.lp
  have hbd := h.bd
  have heb : nb ≤ 16777216 := by have := h.eb; omega
  have het : nt ≤ 1048576 := by have := h.et; omega
  obtain ⟨e1, e2, e3, e4, e5, e6⟩ := h.ne
  have hebq := HH.out.eb
  by_cases h0 : x < 0
  · clear hc h hebq
    go_enter Try.func17, Try.ntmps17
    go_wp2
    go_ret
    exact ⟨rfl, rfl⟩
  · by_cases h2 : (nb : Int) < x
    · clear hc h hebq
      go_enter Try.func17, Try.ntmps17
      go_wp2
      go_ret
      exact ⟨rfl, rfl⟩
    · have h3 : (nb : Int) - x < (m : Int) := by
        by_cases h3 : (nb : Int) - x < (m : Int)
        · exact h3
        · exact absurd ⟨by omega, by omega, by omega, by omega⟩ hc
      clear hc h hebq
      go_enter Try.func17, Try.ntmps17
      go_wp2
      go_ret
      exact ⟨rfl, rfl⟩
set_option maxRecDepth 100000 in
set_option maxHeartbeats 4000000 in
theorem rmstore_yes (r gb gt gp n nb nt : Nat) (B : Nat → Int) (T D : Nat → Bool) (w : World) (h : Rm w r gb gt gp n nb nt B T D) (a : Nat) (A : Option Addr) (m ca : Nat) (l : List Int) (hm : l.length = m) (hr : RdB w A l) (hl : byteL l) (hfit : a + m ≤ 256 * n) (hA : 0 < m → ∀ b o, A = some ⟨b, o, none⟩ → ¬ Tri gb gt gp b) : Calls Try.prog 17 #[.pointer (some ⟨r, 0, none⟩), .int .i64 (a : Int), .slice A m ca] w fun e w' => e = .returned (.bool true) ∧ Hid (Rm w' r gb gt gp n nb nt (putB B a l) (clrT T a m) D) ∧ Hid (Only (Tri gb gt gp) w w') := by
  have HH := hid h
  have c0 := h.c0
  have hlr := h.lr
  have hlb := h.lb
  have hlt := h.lt
  have hlp := h.lp
  have hbd := h.bd
  have heb : nb ≤ 16777216 := by have := h.eb; omega
  have het : nt ≤ 1048576 := by have := h.et; omega
  obtain ⟨e1, e2, e3, e4, e5, e6⟩ := h.ne
  have h0 : (0 : Int) ≤ (a : Int) := by omega
  have h1 : (0 : Int) ≤ (m : Int) := by omega
  have h2 : (a : Int) ≤ (nb : Int) := by have := HH.out.eb; omega
  have h3 : (m : Int) ≤ (nb : Int) - (a : Int) := by have := HH.out.eb; omega
  have HFIT : Hid (a + m ≤ nb ∧ nt = 16 * n ∧ nb = 256 * n) := hid ⟨by have := HH.out.eb; omega, HH.out.et, HH.out.eb⟩
  have hmb : m ≤ 16777216 := by have := HFIT.out.1; omega
  have hab : a ≤ 16777216 := by have := HFIT.out.1; omega
  have HML := hid hm
  have HR := hid hr
  have HL := hid hl
  have HA := hid hA
  clear h hr hl hfit hA hm
  go_enter Try.func17, Try.ntmps17
  go_wp2
  clear c0 hlr hlb hlt hlp
  go_loopw [7] (fun i wr => ∃ k : Nat, k ≤ m ∧ i = .int .i64 k ∧ Hid (Rm wr r gb gt gp n nb nt (putB B a (l.take k)) (clrT T a k) (D)) ∧ Hid (Only (Tri gb gt gp) w wr)) (fun i _ => m - (intOf i).toNat)
  case atStart => exact ⟨0, by omega, rfl, hid (by rw [List.take_zero, putB_nil, clrT_zero]; exact HH.out), hid (Only.refl _ _)⟩
  case round =>
    obtain ⟨k, hk, rfl, HM, HO⟩ := hrel
    have hk0 : (0 : Int) ≤ (k : Int) := by omega
    by_cases hlt' : k < m
    · have hk1 : (k : Int) < (m : Int) := by omega
      have hak : (a : Int) + (k : Int) < (nb : Int) := by have := HFIT.out.1; omega
      have hak0 : (0 : Int) ≤ (a : Int) + (k : Int) := by omega
      have hkl : k < l.length := by rw [HML.out]; exact hlt'
      obtain ⟨x, hx⟩ : ∃ x, l[k] = x := ⟨_, rfl⟩
      have hxb : 0 ≤ x ∧ x ≤ 255 := by rw [← hx]; exact HL.out _ (List.getElem_mem hkl)
      obtain ⟨bb, ob, rfl, hbb', hcc⟩ := HR.out (by omega)
      have hnT := HA.out (by omega) bb ob rfl
      have hbb := Nat.lt_of_lt_of_le hbb' HO.out.size
      have hck := (HO.out.cells bb (ob + k) hbb' hnT).trans (hcc k hkl)
      rw [hx] at hck
      have HNX := hid (putB_next B a k l hkl)
      rw [hx] at HNX
      have hbg : ¬ bb = gb := fun e => hnT (.inl e)
      have c0 := HM.out.c0
      have hlr := HM.out.lr
      have hlb := HM.out.lb
      have hcb := (HM.out.by_ (a + k) (by have := HFIT.out.1; omega)).1
      have hfb := (HM.out.by_ (a + k) (by have := HFIT.out.1; omega)).2
      obtain ⟨y, hy⟩ : ∃ y, putB B a (l.take k) (a + k) = y := ⟨_, rfl⟩
      rw [hy] at hcb
      clear hy hx hkl hcc hnT hbb'
      go_upto_region 6 with (fail)
      refine wp_region_turn (q := gb) (.rd 0 (.rd 1 (.rd 2 (.rd 3 (.rd 4 (.rd 5 (.rd 6 (.rd 7 (.rd 8 (.rd 9 (.rd 10 (.rd 11 (.ac 12 .done))))))))))))) (by kernel_rfl) (by kernel_rfl) (fun _ _ d _ _ h => by cases d <;> exact h) (by simp only [Ord.map, nthOp, List.append]; rfl) ?_
      intro d0
      repeat (refine turn_read (by rfl) (fun K hK => ?_); go_big_quiet_op; refine hK _ ?_; clear hK K)
      refine turn_act (by rfl) (fun K hK => ?_)
      go_wp2
      refine ⟨_, Only.refl _ _, (by rw [← grow_setCell _ _ _ _ _ hlb]; exact Only.setCell (S := (· = gb)) (Only.refl _ _) (.inl rfl) _), ?_⟩
      refine turn_nil ?_
      clear c0 hlr hlb hcb hfb hck hbb
      go_upto_region 7 with (fail)
      refine wp_gen (fun W => Hid (Rm W r gb gt gp n nb nt (putB B a (l.take (k + 1))) (clrT T a k) (D)) ∧ Hid (Only (Tri gb gt gp) w W)) ⟨hid (by rw [← HNX.out]; exact (HM.out.setB (by have := HFIT.out.1; omega) hxb).ext (Ext.grow (Ext.refl _) d0)), hid ((Only.setCell HO.out (.inl (.inl rfl)) _).transExt (Ext.grow (Ext.refl _) d0))⟩ ?_
      clear HM HO HNX
      rintro W ⟨HM, HO⟩
      obtain ⟨t, ht⟩ : ∃ t, (a + k) / 16 = t := ⟨_, rfl⟩
      have HNT := hid (clrT_next T a k)
      rw [ht] at HNT
      have htn : t < nt := by have := HFIT.out; omega
      have htq : ((a : Int) + (k : Int)) / 16 = (t : Int) := by omega
      have c1 := HM.out.c1
      have hlr := HM.out.lr
      have hlt := HM.out.lt
      have hct := (HM.out.tg t htn).1
      have hft := (HM.out.tg t htn).2
      have ht0 : (0 : Int) ≤ (t : Int) := by omega
      have ht1 : (t : Int) < (nt : Int) := by omega
      obtain ⟨y, hy⟩ : ∃ y, clrT T a k t = y := ⟨_, rfl⟩
      rw [hy] at hct
      have HM2 := hid (HM.out.setT htn false)
      rw [HNT.out] at HM2
      have HO2 : Hid (Only (Tri gb gt gp) w (W.setCell ⟨gt, t, none⟩ (.bool false))) := hid (Only.setCell HO.out (.inl (.inr (.inl rfl))) _)
      clear hy HNT HM HO ht htn
      go_wp2
      go_roundw
      case rel => exact ⟨k + 1, by omega, by go_num, HM2, HO2⟩
      case measure => simp [intOf]; omega
    · obtain rfl : m = k := by omega
      have hk1 : ¬ (m : Int) < (m : Int) := by omega
      rw [List.take_of_length_le (by rw [HML.out]; omega)] at HM
      go_wp2
      go_ret
      exact ⟨rfl, HM, HO⟩
end Go.Proofs.Ythamfkbopjagdaa

namespace Go.Proofs.Ythamfkbopjagdaa
set_option maxRecDepth 100000
set_option linter.unusedSimpArgs false
set_option linter.unusedVariables false
open Go.RowKit

/-- A row that was made: n times one value. -/
structure Made (w : World) (g n : Nat) (z : Value) : Prop where
  lt : g < w.heap.size
  at_ : ∀ k, k < n → w.cell? ⟨g, k, none⟩ = some z ∧ w.frozen? ⟨g, k, none⟩ = false
theorem Made.ext {w w' : World} {g n : Nat} {z : Value} (h : Made w g n z) (x : Ext w w') : Made w' g n z :=
  ⟨Nat.lt_of_lt_of_le h.lt x.size, fun k hk => ⟨(x.cells g _ h.lt).trans (h.at_ k hk).1, (x.frozens g _ h.lt).trans (h.at_ k hk).2⟩⟩
theorem made_of {w : World} {base g m : Nat} {e : TypeId} {z : Value} (h : w.ownsRow base e 1 (.slice (some ⟨g, 0, none⟩) m m) m (madeCells #[z] m).toList) : Made w g m z := by
  rcases h.2 with ⟨h0, _⟩ | ⟨g', cap, cur, hv, _, hg, _, _, hs, ht⟩
  · injection h0 with e; cases e
  · injection hv with e1 e2 e3
    injection e1 with e1
    injection e1 with e1
    subst e1
    refine ⟨(Array.getElem?_eq_some_iff.1 hg).1, fun k hk => ⟨?_, by simp [World.frozen?, hg]⟩⟩
    rw [h.cellAt k (by omega)]
    rw [toList_madeCells_one]
    simp [hk]
/-- 'make' at one operation, of elements of one cell. -/
theorem wp_make1 {P : Program} {o : Oper} {a : Act} {w : World} {K : Act → World → Prop} {Q : Exit → Act → World → Prop} (t : TypeId) (l c : Operand) (hop : o.op = Op.makeSlice t l c) (e : TypeId) (i : TypeInfo) (z : Value) (h1 : P.underlying t = some (.slice e)) (h2 : P.info? e = some i) (h3 : i.zero = some z) (hz : z.cells = #[z]) (h4 : i.size = 1)
    (L : Int) (n : Nat) (hl : a.eval l = .int .i64 L) (hc : a.eval c = .int .i64 L) (hL : L = (n : Int)) (b2 : i.bytes * n ≤ 281474976710656) (b3 : n ≤ maxLen)
    (hK : ∀ w', Ext w w' → Made w' w.heap.size n z → K (a.put o.dst (.slice (some ⟨w.heap.size, 0, none⟩) n n)) w') : o.wp P a w K Q := by
  obtain ⟨w', hrun, r1, r2⟩ := run_make_full (P := P) w w.heap.size t e i z 1 h1 h2 h3 h4 .i64 .i64 n b2 b3 (Nat.le_refl _)
  subst hL
  rw [hz, Nat.mul_one] at r1
  unfold Oper.wp
  simp [execOp, hop, hl, hc, hrun, Result.andThen]
  exact hK _ ⟨r2.os, r2.tape, r2.output, r2.size, fun k hk => r2.block k hk (by simp)⟩ (made_of r1)
theorem info_bool1 : (Try.prog.info? 4).map (fun i => (i.zero, i.size, i.bytes)) = some (some (.bool false), 1, 1) := by kernel_rfl
def RNewIs (n : Nat) (w : World) (e : Ending) (w' : World) : Prop := ∃ r gb gt gp, e = .returned (.pointer (some ⟨r, 0, none⟩)) ∧ Hid (Rm w' r gb gt gp n (256 * n) (16 * n) (fun _ => 0) (fun _ => false) (fun _ => false)) ∧ Ext w w' ∧ w.heap.size ≤ r ∧ w.heap.size ≤ gb ∧ w.heap.size ≤ gt ∧ w.heap.size ≤ gp
set_option maxRecDepth 100000 in
set_option maxHeartbeats 4000000 in
theorem rmnew_no (k : Int) (w : World) (hk : k < 1 ∨ 65536 < k) : Calls Try.prog 11 #[.int .i64 k] w fun e w' => e = .returned (.pointer none) ∧ w = w' := by
  by_cases h1 : k < 1
  · clear hk
    go_enter Try.func11, Try.ntmps11
    go_wp2
    go_ret
    exact ⟨rfl, rfl⟩
  · have h2 : 65536 < k := by omega
    clear hk
    go_enter Try.func11, Try.ntmps11
    go_wp2
    go_ret
    exact ⟨rfl, rfl⟩
set_option maxRecDepth 100000 in
set_option maxHeartbeats 4000000 in
theorem rmnew_ (n : Nat) (w : World) (h1 : 1 ≤ n) (h2 : n ≤ 65536) : Calls Try.prog 11 #[.int .i64 (n : Int)] w fun e w' => RNewIs n w e w' := by
  obtain ⟨u0, hu, uz0, uz1, uz2⟩ := info_parts info_u8
  obtain ⟨b0, hb, bz0, bz1, bz2⟩ := info_parts info_bool1
  have k1 : ¬ (n : Int) < 1 := by omega
  have k2 : ¬ (65536 : Int) < (n : Int) := by omega
  have HBD := hid (And.intro h1 h2)
  go_enter Try.func11, Try.ntmps11
  go_upto_region 3 with (fail)
  refine wp_region_many (.rd 0 (.rd 1 (.rd 3 (.rd 4 (.rd 6 (.way 2 (.way 5 (.way 7 (.rd 8 (.way 9 (.rd 10 .done) .stop)) .stop) (.way 7 (.way 5 (.rd 8 (.way 9 (.rd 10 .done) .stop)) .stop) .stop)) (.way 5 (.way 2 (.way 7 (.rd 8 (.way 9 (.rd 10 .done) .stop)) .stop) (.way 7 (.way 2 (.rd 8 (.way 9 (.rd 10 .done) .stop)) .stop) .stop)) (.way 7 (.way 2 (.way 5 (.rd 8 (.way 9 (.rd 10 .done) .stop)) .stop) (.way 5 (.way 2 (.rd 8 (.way 9 (.rd 10 .done) .stop)) .stop) .stop)) .stop)))))))) (by kernel_rfl) (by kernel_rfl) (fun _ _ d _ _ h => by cases d <;> exact h) (by simp only [OrdM.map, nthOp, List.append]; rfl) ?_
  intro d0
  repeat (refine many_read (by rfl) (fun K hK => ?_); go_big_quiet_op; refine hK _ ?_; clear hK K)
  refine many_way (by rfl) (fun K hK => ?_) ?_
  · refine wp_make1 39 (.tmp 10) (.tmp 10) rfl 5 u0 (.int .u8 0) Try.underlying39 hu uz0 rfl uz1 _ (256 * n) rfl rfl (by omega) (by rw [uz2]; omega) (by unfold maxLen; omega) ?_
    intro w1 hx1 MB0
    have MB := hid MB0
    clear MB0
    have hz1 := hx1.size
    have HX1 := hid (Ext.trans (Ext.grow (Ext.refl w) d0) hx1)
    obtain ⟨gb, hgB⟩ : ∃ x, (Go.Proofs.Ythamfkbopjagdaa.grow w d0).heap.size = x := ⟨_, rfl⟩
    rw [hgB] at MB ⊢
    have hlB := MB.out.lt
    refine hK _ _ ⟨w1, hx1, Ext.refl _, ?_⟩
    clear hK K
    simp only [Act.put, List.setIfInBounds_toArray, List.set_cons_zero, List.set_cons_succ]
    refine many_way (by rfl) (fun K hK => ?_) ?_
    · refine wp_make1 79 (.tmp 13) (.tmp 13) rfl 4 b0 (.bool false) Try.underlying79 hb bz0 rfl bz1 _ (16 * n) rfl rfl (by omega) (by rw [bz2]; omega) (by unfold maxLen; omega) ?_
      intro w2 hx2 MT0
      have MT := hid MT0
      clear MT0
      replace MB := hid (MB.out.ext hx2)
      have hz2 := hx2.size
      have HX2 := hid (HX1.out.trans hx2)
      obtain ⟨gt, hgT⟩ : ∃ x, w1.heap.size = x := ⟨_, rfl⟩
      rw [hgT] at MT ⊢
      have hlT := MT.out.lt
      refine hK _ _ ⟨w2, hx2, Ext.refl _, ?_⟩
      clear hK K
      simp only [Act.put, List.setIfInBounds_toArray, List.set_cons_zero, List.set_cons_succ]
      refine many_way (by rfl) (fun K hK => ?_) ?_
      · refine wp_make1 79 (.tmp 15) (.tmp 15) rfl 4 b0 (.bool false) Try.underlying79 hb bz0 rfl bz1 _ n rfl rfl (by omega) (by rw [bz2]; omega) (by unfold maxLen; omega) ?_
        intro w3 hx3 MD0
        have MD := hid MD0
        clear MD0
        replace MB := hid (MB.out.ext hx3)
        replace MT := hid (MT.out.ext hx3)
        have hz3 := hx3.size
        have HX3 := hid (HX2.out.trans hx3)
        obtain ⟨gp, hgD⟩ : ∃ x, w2.heap.size = x := ⟨_, rfl⟩
        rw [hgD] at MD ⊢
        have hlD := MD.out.lt
        refine hK _ _ ⟨w3, hx3, Ext.refl _, ?_⟩
        clear hK K
        simp only [Act.put, List.setIfInBounds_toArray, List.set_cons_zero, List.set_cons_succ]
        repeat (refine many_read (by rfl) (fun K hK => ?_); go_big_quiet_op; refine hK _ ?_; clear hK K)
        refine many_way (by rfl) (fun K hK => ?_) many_stop
        go_wp2_with fail
        refine ⟨_, (by repeat (first | (with_reducible exact Ext.refl _) | (with_reducible refine Ext.undrew ?_) | (with_reducible refine Ext.grow ?_ _) | (with_reducible refine Ext.drew ?_) | (with_reducible refine Ext.drewN ?_ _) | (with_reducible refine Ext.alloc ?_ _) | (with_reducible assumption) | ((with_reducible refine Ext.setCell ?_ ?_ _); rotate_left; (first | exact Nat.le_refl _ | ((try dsimp only); (try simp only [World.size_alloc, grow_size, World.size_setCell]); omega))))), Ext.refl _, ?_⟩
        repeat (refine many_read (by rfl) (fun K hK => ?_); go_big_quiet_op; refine hK _ ?_; clear hK K)
        refine many_nil ?_
        simp only [grow_size] at hgB hgT hgD
        have hlB := MB.out.lt
        have hlT := MT.out.lt
        have hlD := MD.out.lt
        have hzw := HX3.out.size
        go_wp2
        go_ret
        have x := Ext.alloc (Ext.refl w3) (.cells #[.slice (some ⟨gb, 0, none⟩) (256 * n) (256 * n), .slice (some ⟨gt, 0, none⟩) (16 * n) (16 * n), .slice (some ⟨gp, 0, none⟩) n n] 81)
        refine ⟨w3.heap.size, gb, gt, gp, rfl, hid ⟨by simp, by simp; omega, by simp; omega, by simp; omega, ⟨by omega, by omega, by omega, by omega, by omega, by omega⟩, by simp [go_sem], by simp [go_sem], by simp [go_sem], (MB.out.ext x).at_, (MT.out.ext x).at_, (MD.out.ext x).at_, HBD.out, rfl, rfl, fun _ => ⟨Int.le_refl _, by decide⟩⟩, HX3.out.trans x, by omega, by omega, by omega, by omega⟩
      exact many_stop
    refine many_way (by rfl) (fun K hK => ?_) ?_
    · refine wp_make1 79 (.tmp 15) (.tmp 15) rfl 4 b0 (.bool false) Try.underlying79 hb bz0 rfl bz1 _ n rfl rfl (by omega) (by rw [bz2]; omega) (by unfold maxLen; omega) ?_
      intro w2 hx2 MD0
      have MD := hid MD0
      clear MD0
      replace MB := hid (MB.out.ext hx2)
      have hz2 := hx2.size
      have HX2 := hid (HX1.out.trans hx2)
      obtain ⟨gp, hgD⟩ : ∃ x, w1.heap.size = x := ⟨_, rfl⟩
      rw [hgD] at MD ⊢
      have hlD := MD.out.lt
      refine hK _ _ ⟨w2, hx2, Ext.refl _, ?_⟩
      clear hK K
      simp only [Act.put, List.setIfInBounds_toArray, List.set_cons_zero, List.set_cons_succ]
      refine many_way (by rfl) (fun K hK => ?_) ?_
      · refine wp_make1 79 (.tmp 13) (.tmp 13) rfl 4 b0 (.bool false) Try.underlying79 hb bz0 rfl bz1 _ (16 * n) rfl rfl (by omega) (by rw [bz2]; omega) (by unfold maxLen; omega) ?_
        intro w3 hx3 MT0
        have MT := hid MT0
        clear MT0
        replace MB := hid (MB.out.ext hx3)
        replace MD := hid (MD.out.ext hx3)
        have hz3 := hx3.size
        have HX3 := hid (HX2.out.trans hx3)
        obtain ⟨gt, hgT⟩ : ∃ x, w2.heap.size = x := ⟨_, rfl⟩
        rw [hgT] at MT ⊢
        have hlT := MT.out.lt
        refine hK _ _ ⟨w3, hx3, Ext.refl _, ?_⟩
        clear hK K
        simp only [Act.put, List.setIfInBounds_toArray, List.set_cons_zero, List.set_cons_succ]
        repeat (refine many_read (by rfl) (fun K hK => ?_); go_big_quiet_op; refine hK _ ?_; clear hK K)
        refine many_way (by rfl) (fun K hK => ?_) many_stop
        go_wp2_with fail
        refine ⟨_, (by repeat (first | (with_reducible exact Ext.refl _) | (with_reducible refine Ext.undrew ?_) | (with_reducible refine Ext.grow ?_ _) | (with_reducible refine Ext.drew ?_) | (with_reducible refine Ext.drewN ?_ _) | (with_reducible refine Ext.alloc ?_ _) | (with_reducible assumption) | ((with_reducible refine Ext.setCell ?_ ?_ _); rotate_left; (first | exact Nat.le_refl _ | ((try dsimp only); (try simp only [World.size_alloc, grow_size, World.size_setCell]); omega))))), Ext.refl _, ?_⟩
        repeat (refine many_read (by rfl) (fun K hK => ?_); go_big_quiet_op; refine hK _ ?_; clear hK K)
        refine many_nil ?_
        simp only [grow_size] at hgB hgT hgD
        have hlB := MB.out.lt
        have hlT := MT.out.lt
        have hlD := MD.out.lt
        have hzw := HX3.out.size
        go_wp2
        go_ret
        have x := Ext.alloc (Ext.refl w3) (.cells #[.slice (some ⟨gb, 0, none⟩) (256 * n) (256 * n), .slice (some ⟨gt, 0, none⟩) (16 * n) (16 * n), .slice (some ⟨gp, 0, none⟩) n n] 81)
        refine ⟨w3.heap.size, gb, gt, gp, rfl, hid ⟨by simp, by simp; omega, by simp; omega, by simp; omega, ⟨by omega, by omega, by omega, by omega, by omega, by omega⟩, by simp [go_sem], by simp [go_sem], by simp [go_sem], (MB.out.ext x).at_, (MT.out.ext x).at_, (MD.out.ext x).at_, HBD.out, rfl, rfl, fun _ => ⟨Int.le_refl _, by decide⟩⟩, HX3.out.trans x, by omega, by omega, by omega, by omega⟩
      exact many_stop
    exact many_stop
  refine many_way (by rfl) (fun K hK => ?_) ?_
  · refine wp_make1 79 (.tmp 13) (.tmp 13) rfl 4 b0 (.bool false) Try.underlying79 hb bz0 rfl bz1 _ (16 * n) rfl rfl (by omega) (by rw [bz2]; omega) (by unfold maxLen; omega) ?_
    intro w1 hx1 MT0
    have MT := hid MT0
    clear MT0
    have hz1 := hx1.size
    have HX1 := hid (Ext.trans (Ext.grow (Ext.refl w) d0) hx1)
    obtain ⟨gt, hgT⟩ : ∃ x, (Go.Proofs.Ythamfkbopjagdaa.grow w d0).heap.size = x := ⟨_, rfl⟩
    rw [hgT] at MT ⊢
    have hlT := MT.out.lt
    refine hK _ _ ⟨w1, hx1, Ext.refl _, ?_⟩
    clear hK K
    simp only [Act.put, List.setIfInBounds_toArray, List.set_cons_zero, List.set_cons_succ]
    refine many_way (by rfl) (fun K hK => ?_) ?_
    · refine wp_make1 39 (.tmp 10) (.tmp 10) rfl 5 u0 (.int .u8 0) Try.underlying39 hu uz0 rfl uz1 _ (256 * n) rfl rfl (by omega) (by rw [uz2]; omega) (by unfold maxLen; omega) ?_
      intro w2 hx2 MB0
      have MB := hid MB0
      clear MB0
      replace MT := hid (MT.out.ext hx2)
      have hz2 := hx2.size
      have HX2 := hid (HX1.out.trans hx2)
      obtain ⟨gb, hgB⟩ : ∃ x, w1.heap.size = x := ⟨_, rfl⟩
      rw [hgB] at MB ⊢
      have hlB := MB.out.lt
      refine hK _ _ ⟨w2, hx2, Ext.refl _, ?_⟩
      clear hK K
      simp only [Act.put, List.setIfInBounds_toArray, List.set_cons_zero, List.set_cons_succ]
      refine many_way (by rfl) (fun K hK => ?_) ?_
      · refine wp_make1 79 (.tmp 15) (.tmp 15) rfl 4 b0 (.bool false) Try.underlying79 hb bz0 rfl bz1 _ n rfl rfl (by omega) (by rw [bz2]; omega) (by unfold maxLen; omega) ?_
        intro w3 hx3 MD0
        have MD := hid MD0
        clear MD0
        replace MT := hid (MT.out.ext hx3)
        replace MB := hid (MB.out.ext hx3)
        have hz3 := hx3.size
        have HX3 := hid (HX2.out.trans hx3)
        obtain ⟨gp, hgD⟩ : ∃ x, w2.heap.size = x := ⟨_, rfl⟩
        rw [hgD] at MD ⊢
        have hlD := MD.out.lt
        refine hK _ _ ⟨w3, hx3, Ext.refl _, ?_⟩
        clear hK K
        simp only [Act.put, List.setIfInBounds_toArray, List.set_cons_zero, List.set_cons_succ]
        repeat (refine many_read (by rfl) (fun K hK => ?_); go_big_quiet_op; refine hK _ ?_; clear hK K)
        refine many_way (by rfl) (fun K hK => ?_) many_stop
        go_wp2_with fail
        refine ⟨_, (by repeat (first | (with_reducible exact Ext.refl _) | (with_reducible refine Ext.undrew ?_) | (with_reducible refine Ext.grow ?_ _) | (with_reducible refine Ext.drew ?_) | (with_reducible refine Ext.drewN ?_ _) | (with_reducible refine Ext.alloc ?_ _) | (with_reducible assumption) | ((with_reducible refine Ext.setCell ?_ ?_ _); rotate_left; (first | exact Nat.le_refl _ | ((try dsimp only); (try simp only [World.size_alloc, grow_size, World.size_setCell]); omega))))), Ext.refl _, ?_⟩
        repeat (refine many_read (by rfl) (fun K hK => ?_); go_big_quiet_op; refine hK _ ?_; clear hK K)
        refine many_nil ?_
        simp only [grow_size] at hgB hgT hgD
        have hlB := MB.out.lt
        have hlT := MT.out.lt
        have hlD := MD.out.lt
        have hzw := HX3.out.size
        go_wp2
        go_ret
        have x := Ext.alloc (Ext.refl w3) (.cells #[.slice (some ⟨gb, 0, none⟩) (256 * n) (256 * n), .slice (some ⟨gt, 0, none⟩) (16 * n) (16 * n), .slice (some ⟨gp, 0, none⟩) n n] 81)
        refine ⟨w3.heap.size, gb, gt, gp, rfl, hid ⟨by simp, by simp; omega, by simp; omega, by simp; omega, ⟨by omega, by omega, by omega, by omega, by omega, by omega⟩, by simp [go_sem], by simp [go_sem], by simp [go_sem], (MB.out.ext x).at_, (MT.out.ext x).at_, (MD.out.ext x).at_, HBD.out, rfl, rfl, fun _ => ⟨Int.le_refl _, by decide⟩⟩, HX3.out.trans x, by omega, by omega, by omega, by omega⟩
      exact many_stop
    refine many_way (by rfl) (fun K hK => ?_) ?_
    · refine wp_make1 79 (.tmp 15) (.tmp 15) rfl 4 b0 (.bool false) Try.underlying79 hb bz0 rfl bz1 _ n rfl rfl (by omega) (by rw [bz2]; omega) (by unfold maxLen; omega) ?_
      intro w2 hx2 MD0
      have MD := hid MD0
      clear MD0
      replace MT := hid (MT.out.ext hx2)
      have hz2 := hx2.size
      have HX2 := hid (HX1.out.trans hx2)
      obtain ⟨gp, hgD⟩ : ∃ x, w1.heap.size = x := ⟨_, rfl⟩
      rw [hgD] at MD ⊢
      have hlD := MD.out.lt
      refine hK _ _ ⟨w2, hx2, Ext.refl _, ?_⟩
      clear hK K
      simp only [Act.put, List.setIfInBounds_toArray, List.set_cons_zero, List.set_cons_succ]
      refine many_way (by rfl) (fun K hK => ?_) ?_
      · refine wp_make1 39 (.tmp 10) (.tmp 10) rfl 5 u0 (.int .u8 0) Try.underlying39 hu uz0 rfl uz1 _ (256 * n) rfl rfl (by omega) (by rw [uz2]; omega) (by unfold maxLen; omega) ?_
        intro w3 hx3 MB0
        have MB := hid MB0
        clear MB0
        replace MT := hid (MT.out.ext hx3)
        replace MD := hid (MD.out.ext hx3)
        have hz3 := hx3.size
        have HX3 := hid (HX2.out.trans hx3)
        obtain ⟨gb, hgB⟩ : ∃ x, w2.heap.size = x := ⟨_, rfl⟩
        rw [hgB] at MB ⊢
        have hlB := MB.out.lt
        refine hK _ _ ⟨w3, hx3, Ext.refl _, ?_⟩
        clear hK K
        simp only [Act.put, List.setIfInBounds_toArray, List.set_cons_zero, List.set_cons_succ]
        repeat (refine many_read (by rfl) (fun K hK => ?_); go_big_quiet_op; refine hK _ ?_; clear hK K)
        refine many_way (by rfl) (fun K hK => ?_) many_stop
        go_wp2_with fail
        refine ⟨_, (by repeat (first | (with_reducible exact Ext.refl _) | (with_reducible refine Ext.undrew ?_) | (with_reducible refine Ext.grow ?_ _) | (with_reducible refine Ext.drew ?_) | (with_reducible refine Ext.drewN ?_ _) | (with_reducible refine Ext.alloc ?_ _) | (with_reducible assumption) | ((with_reducible refine Ext.setCell ?_ ?_ _); rotate_left; (first | exact Nat.le_refl _ | ((try dsimp only); (try simp only [World.size_alloc, grow_size, World.size_setCell]); omega))))), Ext.refl _, ?_⟩
        repeat (refine many_read (by rfl) (fun K hK => ?_); go_big_quiet_op; refine hK _ ?_; clear hK K)
        refine many_nil ?_
        simp only [grow_size] at hgB hgT hgD
        have hlB := MB.out.lt
        have hlT := MT.out.lt
        have hlD := MD.out.lt
        have hzw := HX3.out.size
        go_wp2
        go_ret
        have x := Ext.alloc (Ext.refl w3) (.cells #[.slice (some ⟨gb, 0, none⟩) (256 * n) (256 * n), .slice (some ⟨gt, 0, none⟩) (16 * n) (16 * n), .slice (some ⟨gp, 0, none⟩) n n] 81)
        refine ⟨w3.heap.size, gb, gt, gp, rfl, hid ⟨by simp, by simp; omega, by simp; omega, by simp; omega, ⟨by omega, by omega, by omega, by omega, by omega, by omega⟩, by simp [go_sem], by simp [go_sem], by simp [go_sem], (MB.out.ext x).at_, (MT.out.ext x).at_, (MD.out.ext x).at_, HBD.out, rfl, rfl, fun _ => ⟨Int.le_refl _, by decide⟩⟩, HX3.out.trans x, by omega, by omega, by omega, by omega⟩
      exact many_stop
    exact many_stop
  refine many_way (by rfl) (fun K hK => ?_) ?_
  · refine wp_make1 79 (.tmp 15) (.tmp 15) rfl 4 b0 (.bool false) Try.underlying79 hb bz0 rfl bz1 _ n rfl rfl (by omega) (by rw [bz2]; omega) (by unfold maxLen; omega) ?_
    intro w1 hx1 MD0
    have MD := hid MD0
    clear MD0
    have hz1 := hx1.size
    have HX1 := hid (Ext.trans (Ext.grow (Ext.refl w) d0) hx1)
    obtain ⟨gp, hgD⟩ : ∃ x, (Go.Proofs.Ythamfkbopjagdaa.grow w d0).heap.size = x := ⟨_, rfl⟩
    rw [hgD] at MD ⊢
    have hlD := MD.out.lt
    refine hK _ _ ⟨w1, hx1, Ext.refl _, ?_⟩
    clear hK K
    simp only [Act.put, List.setIfInBounds_toArray, List.set_cons_zero, List.set_cons_succ]
    refine many_way (by rfl) (fun K hK => ?_) ?_
    · refine wp_make1 39 (.tmp 10) (.tmp 10) rfl 5 u0 (.int .u8 0) Try.underlying39 hu uz0 rfl uz1 _ (256 * n) rfl rfl (by omega) (by rw [uz2]; omega) (by unfold maxLen; omega) ?_
      intro w2 hx2 MB0
      have MB := hid MB0
      clear MB0
      replace MD := hid (MD.out.ext hx2)
      have hz2 := hx2.size
      have HX2 := hid (HX1.out.trans hx2)
      obtain ⟨gb, hgB⟩ : ∃ x, w1.heap.size = x := ⟨_, rfl⟩
      rw [hgB] at MB ⊢
      have hlB := MB.out.lt
      refine hK _ _ ⟨w2, hx2, Ext.refl _, ?_⟩
      clear hK K
      simp only [Act.put, List.setIfInBounds_toArray, List.set_cons_zero, List.set_cons_succ]
      refine many_way (by rfl) (fun K hK => ?_) ?_
      · refine wp_make1 79 (.tmp 13) (.tmp 13) rfl 4 b0 (.bool false) Try.underlying79 hb bz0 rfl bz1 _ (16 * n) rfl rfl (by omega) (by rw [bz2]; omega) (by unfold maxLen; omega) ?_
        intro w3 hx3 MT0
        have MT := hid MT0
        clear MT0
        replace MD := hid (MD.out.ext hx3)
        replace MB := hid (MB.out.ext hx3)
        have hz3 := hx3.size
        have HX3 := hid (HX2.out.trans hx3)
        obtain ⟨gt, hgT⟩ : ∃ x, w2.heap.size = x := ⟨_, rfl⟩
        rw [hgT] at MT ⊢
        have hlT := MT.out.lt
        refine hK _ _ ⟨w3, hx3, Ext.refl _, ?_⟩
        clear hK K
        simp only [Act.put, List.setIfInBounds_toArray, List.set_cons_zero, List.set_cons_succ]
        repeat (refine many_read (by rfl) (fun K hK => ?_); go_big_quiet_op; refine hK _ ?_; clear hK K)
        refine many_way (by rfl) (fun K hK => ?_) many_stop
        go_wp2_with fail
        refine ⟨_, (by repeat (first | (with_reducible exact Ext.refl _) | (with_reducible refine Ext.undrew ?_) | (with_reducible refine Ext.grow ?_ _) | (with_reducible refine Ext.drew ?_) | (with_reducible refine Ext.drewN ?_ _) | (with_reducible refine Ext.alloc ?_ _) | (with_reducible assumption) | ((with_reducible refine Ext.setCell ?_ ?_ _); rotate_left; (first | exact Nat.le_refl _ | ((try dsimp only); (try simp only [World.size_alloc, grow_size, World.size_setCell]); omega))))), Ext.refl _, ?_⟩
        repeat (refine many_read (by rfl) (fun K hK => ?_); go_big_quiet_op; refine hK _ ?_; clear hK K)
        refine many_nil ?_
        simp only [grow_size] at hgB hgT hgD
        have hlB := MB.out.lt
        have hlT := MT.out.lt
        have hlD := MD.out.lt
        have hzw := HX3.out.size
        go_wp2
        go_ret
        have x := Ext.alloc (Ext.refl w3) (.cells #[.slice (some ⟨gb, 0, none⟩) (256 * n) (256 * n), .slice (some ⟨gt, 0, none⟩) (16 * n) (16 * n), .slice (some ⟨gp, 0, none⟩) n n] 81)
        refine ⟨w3.heap.size, gb, gt, gp, rfl, hid ⟨by simp, by simp; omega, by simp; omega, by simp; omega, ⟨by omega, by omega, by omega, by omega, by omega, by omega⟩, by simp [go_sem], by simp [go_sem], by simp [go_sem], (MB.out.ext x).at_, (MT.out.ext x).at_, (MD.out.ext x).at_, HBD.out, rfl, rfl, fun _ => ⟨Int.le_refl _, by decide⟩⟩, HX3.out.trans x, by omega, by omega, by omega, by omega⟩
      exact many_stop
    refine many_way (by rfl) (fun K hK => ?_) ?_
    · refine wp_make1 79 (.tmp 13) (.tmp 13) rfl 4 b0 (.bool false) Try.underlying79 hb bz0 rfl bz1 _ (16 * n) rfl rfl (by omega) (by rw [bz2]; omega) (by unfold maxLen; omega) ?_
      intro w2 hx2 MT0
      have MT := hid MT0
      clear MT0
      replace MD := hid (MD.out.ext hx2)
      have hz2 := hx2.size
      have HX2 := hid (HX1.out.trans hx2)
      obtain ⟨gt, hgT⟩ : ∃ x, w1.heap.size = x := ⟨_, rfl⟩
      rw [hgT] at MT ⊢
      have hlT := MT.out.lt
      refine hK _ _ ⟨w2, hx2, Ext.refl _, ?_⟩
      clear hK K
      simp only [Act.put, List.setIfInBounds_toArray, List.set_cons_zero, List.set_cons_succ]
      refine many_way (by rfl) (fun K hK => ?_) ?_
      · refine wp_make1 39 (.tmp 10) (.tmp 10) rfl 5 u0 (.int .u8 0) Try.underlying39 hu uz0 rfl uz1 _ (256 * n) rfl rfl (by omega) (by rw [uz2]; omega) (by unfold maxLen; omega) ?_
        intro w3 hx3 MB0
        have MB := hid MB0
        clear MB0
        replace MD := hid (MD.out.ext hx3)
        replace MT := hid (MT.out.ext hx3)
        have hz3 := hx3.size
        have HX3 := hid (HX2.out.trans hx3)
        obtain ⟨gb, hgB⟩ : ∃ x, w2.heap.size = x := ⟨_, rfl⟩
        rw [hgB] at MB ⊢
        have hlB := MB.out.lt
        refine hK _ _ ⟨w3, hx3, Ext.refl _, ?_⟩
        clear hK K
        simp only [Act.put, List.setIfInBounds_toArray, List.set_cons_zero, List.set_cons_succ]
        repeat (refine many_read (by rfl) (fun K hK => ?_); go_big_quiet_op; refine hK _ ?_; clear hK K)
        refine many_way (by rfl) (fun K hK => ?_) many_stop
        go_wp2_with fail
        refine ⟨_, (by repeat (first | (with_reducible exact Ext.refl _) | (with_reducible refine Ext.undrew ?_) | (with_reducible refine Ext.grow ?_ _) | (with_reducible refine Ext.drew ?_) | (with_reducible refine Ext.drewN ?_ _) | (with_reducible refine Ext.alloc ?_ _) | (with_reducible assumption) | ((with_reducible refine Ext.setCell ?_ ?_ _); rotate_left; (first | exact Nat.le_refl _ | ((try dsimp only); (try simp only [World.size_alloc, grow_size, World.size_setCell]); omega))))), Ext.refl _, ?_⟩
        repeat (refine many_read (by rfl) (fun K hK => ?_); go_big_quiet_op; refine hK _ ?_; clear hK K)
        refine many_nil ?_
        simp only [grow_size] at hgB hgT hgD
        have hlB := MB.out.lt
        have hlT := MT.out.lt
        have hlD := MD.out.lt
        have hzw := HX3.out.size
        go_wp2
        go_ret
        have x := Ext.alloc (Ext.refl w3) (.cells #[.slice (some ⟨gb, 0, none⟩) (256 * n) (256 * n), .slice (some ⟨gt, 0, none⟩) (16 * n) (16 * n), .slice (some ⟨gp, 0, none⟩) n n] 81)
        refine ⟨w3.heap.size, gb, gt, gp, rfl, hid ⟨by simp, by simp; omega, by simp; omega, by simp; omega, ⟨by omega, by omega, by omega, by omega, by omega, by omega⟩, by simp [go_sem], by simp [go_sem], by simp [go_sem], (MB.out.ext x).at_, (MT.out.ext x).at_, (MD.out.ext x).at_, HBD.out, rfl, rfl, fun _ => ⟨Int.le_refl _, by decide⟩⟩, HX3.out.trans x, by omega, by omega, by omega, by omega⟩
      exact many_stop
    exact many_stop
  exact many_stop
end Go.Proofs.Ythamfkbopjagdaa

namespace Go.Proofs.Ythamfkbopjagdaa
set_option maxRecDepth 100000
set_option linter.unusedSimpArgs false
set_option linter.unusedVariables false
open Go.RowKit

/-- A row of numbers that a call has made. -/
def RowNIs (w : World) (l : List Nat) (e : Ending) (w' : World) : Prop := ∃ A ca, e = .returned (.slice A l.length ca) ∧ Hid (RdN w' A l) ∧ Hid (Ext w w') ∧ Hid (∀ b o, A = some ⟨b, o, none⟩ → w.heap.size ≤ b)
theorem anyB_at {b : Nat → Bool} {i : Nat} (hi : i < 16) (h : b i = true) : anyB b = true := by
  unfold anyB
  exact List.any_eq_true.2 ⟨i, List.mem_range.2 hi, h⟩
theorem anyB_none {b : Nat → Bool} (h : anyB b = false) : ∀ i, i < 16 → b i = false := fun i hi => by
  unfold anyB at h
  have := List.any_eq_false.1 h i (List.mem_range.2 hi)
  simpa using this
theorem anyB_all {b : Nat → Bool} (h : ∀ i, i < 16 → b i = false) : anyB b = false := by
  unfold anyB
  exact List.any_eq_false.2 fun i hi => by rw [h i (List.mem_range.1 hi)]; exact Bool.false_ne_true
set_option maxRecDepth 100000 in
set_option maxHeartbeats 4000000 in
theorem rmclean_no (r gb gt gp n nb nt : Nat) (B : Nat → Int) (T D : Nat → Bool) (w : World) (h : Rm w r gb gt gp n nb nt B T D) (x : Int) (hc : x < 0 ∨ (n : Int) ≤ x) : Calls Try.prog 75 #[.pointer (some ⟨r, 0, none⟩), .int .i64 x] w fun e w' => e = .returned (.bool false) ∧ w = w' := by
  have HH := hid h
  have c2 := h.c2
  have hlr := h.lr
  have hlb := h.lb
  have hlt := h.lt
  have hlp := h.lp
  have hbd := h.bd
  have heb : nb ≤ 16777216 := by have := h.eb; omega
  have het : nt ≤ 1048576 := by have := h.et; omega
  obtain ⟨e1, e2, e3, e4, e5, e6⟩ := h.ne
  by_cases h0 : x < 0
  · clear hc h
    go_enter Try.func75, Try.ntmps75
    go_wp2
    go_ret
    exact ⟨rfl, rfl⟩
  · have h1 : (n : Int) ≤ x := by omega
    clear hc h
    go_enter Try.func75, Try.ntmps75
    go_wp2
    go_ret
    exact ⟨rfl, rfl⟩
set_option maxRecDepth 100000 in
set_option maxHeartbeats 4000000 in
theorem rmclean_any (r gb gt gp n nb nt : Nat) (B : Nat → Int) (T D : Nat → Bool) (w : World) (h : Rm w r gb gt gp n nb nt B T D) (p : Nat) (hp : p < n) (ha : anyB (fun j => T (16 * p + j)) = true) : Calls Try.prog 75 #[.pointer (some ⟨r, 0, none⟩), .int .i64 (p : Int)] w fun e w' => e = .returned (.bool false) ∧ w = w' := by
  have HH := hid h
  have c2 := h.c2
  have c1 := h.c1
  have hlr := h.lr
  have hlb := h.lb
  have hlt := h.lt
  have hlp := h.lp
  have hbd := h.bd
  have heb : nb ≤ 16777216 := by have := h.eb; omega
  have het : nt ≤ 1048576 := by have := h.et; omega
  obtain ⟨e1, e2, e3, e4, e5, e6⟩ := h.ne
  have hp0 : (0 : Int) ≤ (p : Int) := by omega
  have hp1 : (p : Int) < (n : Int) := by omega
  have hpb : (p : Int) ≤ 65536 := by omega
  have hnt : 16 * p + 16 ≤ nt := by have := h.et; omega
  have HA := hid ha
  clear h ha
  go_enter Try.func75, Try.ntmps75
  go_wp2
  go_loopw [5] (fun i wr => ∃ k : Nat, k ≤ 16 ∧ i = .int .i64 (16 * (p : Int) + (k : Int)) ∧ wr = w ∧ Hid (∀ j, j < k → T (16 * p + j) = false)) (fun i _ => (16 * (p : Int) + 16 - intOf i).toNat)
  case atStart => exact ⟨0, by omega, by simp, (by first | rfl | trivial), hid (fun j hj => absurd hj (Nat.not_lt_zero _))⟩
  case round =>
    obtain ⟨k, hk, rfl, rfl, HK⟩ := hrel
    have hk0 : (0 : Int) ≤ (k : Int) := by omega
    by_cases hlt' : k < 16
    · have hk1 : 16 * (p : Int) + (k : Int) < 16 * (p : Int) + 16 := by omega
      have hk2 : 16 * (p : Int) + (k : Int) < (nt : Int) := by omega
      have hk3 : (0 : Int) ≤ 16 * (p : Int) + (k : Int) := by omega
      have htg := (HH.out.tg (16 * p + k) (by omega)).1
      have hti : (16 * (p : Int) + (k : Int)).toNat = 16 * p + k := by omega
      cases hT : T (16 * p + k) with
      | true =>
        rw [hT] at htg
        have HT := hid hT
        clear hT
        go_wp2
        go_ret
        first | exact ⟨rfl, rfl⟩ | exact ⟨trivial, rfl⟩ | exact ⟨rfl, trivial⟩ | exact ⟨trivial, trivial⟩ | trivial
      | false =>
        rw [hT] at htg
        have HK2 : Hid (∀ j, j < k + 1 → T (16 * p + j) = false) := hid (upto_snoc HK.out hT)
        clear hT HK
        go_wp2
        go_roundw
        case rel => exact ⟨k + 1, by omega, by go_num, (by first | rfl | trivial), HK2⟩
        case measure => simp [intOf]; omega
    · obtain rfl : k = 16 := by omega
      have hk1 : ¬ 16 * (p : Int) + 16 < 16 * (p : Int) + 16 := by omega
      exfalso
      have := HA.out
      rw [anyB_all HK.out] at this
      cases this
set_option maxRecDepth 100000 in
set_option maxHeartbeats 4000000 in
theorem rmclean_yes (r gb gt gp n nb nt : Nat) (B : Nat → Int) (T D : Nat → Bool) (w : World) (h : Rm w r gb gt gp n nb nt B T D) (p : Nat) (hp : p < n) (ha : anyB (fun j => T (16 * p + j)) = false) : Calls Try.prog 75 #[.pointer (some ⟨r, 0, none⟩), .int .i64 (p : Int)] w fun e w' => e = .returned (.bool true) ∧ Hid (Rm w' r gb gt gp n nb nt B T (upd1 D p false)) ∧ Hid (Only (Tri gb gt gp) w w') := by
  have HH := hid h
  have c2 := h.c2
  have c1 := h.c1
  have hlr := h.lr
  have hlb := h.lb
  have hlt := h.lt
  have hlp := h.lp
  have hbd := h.bd
  have heb : nb ≤ 16777216 := by have := h.eb; omega
  have het : nt ≤ 1048576 := by have := h.et; omega
  obtain ⟨e1, e2, e3, e4, e5, e6⟩ := h.ne
  have hp0 : (0 : Int) ≤ (p : Int) := by omega
  have hp1 : (p : Int) < (n : Int) := by omega
  have hpb : (p : Int) ≤ 65536 := by omega
  have hnt : 16 * p + 16 ≤ nt := by have := h.et; omega
  have HA := hid ha
  have hdt := (h.dt p hp).1
  have hft := (h.dt p hp).2
  generalize D p = dv at hdt
  have HM := hid (h.setD hp false)
  have HO : Hid (Only (Tri gb gt gp) w (w.setCell ⟨gp, p, none⟩ (.bool false))) := hid (Only.setCell (Only.refl _ _) (.inl (.inr (.inr rfl))) _)
  clear h ha
  go_enter Try.func75, Try.ntmps75
  go_wp2
  go_loopw [5] (fun i wr => ∃ k : Nat, k ≤ 16 ∧ i = .int .i64 (16 * (p : Int) + (k : Int)) ∧ wr = w ∧ Hid (∀ j, j < k → T (16 * p + j) = false)) (fun i _ => (16 * (p : Int) + 16 - intOf i).toNat)
  case atStart => exact ⟨0, by omega, by simp, (by first | rfl | trivial), hid (fun j hj => absurd hj (Nat.not_lt_zero _))⟩
  case round =>
    obtain ⟨k, hk, rfl, rfl, HK⟩ := hrel
    have hk0 : (0 : Int) ≤ (k : Int) := by omega
    by_cases hlt' : k < 16
    · have hk1 : 16 * (p : Int) + (k : Int) < 16 * (p : Int) + 16 := by omega
      have hk2 : 16 * (p : Int) + (k : Int) < (nt : Int) := by omega
      have hk3 : (0 : Int) ≤ 16 * (p : Int) + (k : Int) := by omega
      have htg := (HH.out.tg (16 * p + k) (by omega)).1
      have hti : (16 * (p : Int) + (k : Int)).toNat = 16 * p + k := by omega
      cases hT : T (16 * p + k) with
      | true =>
        rw [hT] at htg
        have HT := hid hT
        clear hT
        go_wp2
        exfalso
        have := anyB_none HA.out k hlt'
        rw [HT.out] at this
        cases this
      | false =>
        rw [hT] at htg
        have HK2 : Hid (∀ j, j < k + 1 → T (16 * p + j) = false) := hid (upto_snoc HK.out hT)
        clear hT HK
        go_wp2
        go_roundw
        case rel => exact ⟨k + 1, by omega, by go_num, (by first | rfl | trivial), HK2⟩
        case measure => simp [intOf]; omega
    · obtain rfl : k = 16 := by omega
      have hk1 : ¬ 16 * (p : Int) + 16 < 16 * (p : Int) + 16 := by omega
      go_wp2
      go_ret
      exact ⟨rfl, HM, HO⟩
set_option maxRecDepth 100000 in
set_option maxHeartbeats 4000000 in
theorem rmtags_ (r gb gt gp n nb nt : Nat) (B : Nat → Int) (T D : Nat → Bool) (w : World) (h : Rm w r gb gt gp n nb nt B T D) : Calls Try.prog 34 #[.pointer (some ⟨r, 0, none⟩)] w fun e w' => RowNIs w ((whichN T nt).map (16 * ·)) e w' := by
  have HH := hid h
  have c1 := h.c1
  have hlr := h.lr
  have hlb := h.lb
  have hlt := h.lt
  have hlp := h.lp
  have hbd := h.bd
  have heb : nb ≤ 16777216 := by have := h.eb; omega
  have het : nt ≤ 1048576 := by have := h.et; omega
  obtain ⟨e1, e2, e3, e4, e5, e6⟩ := h.ne
  obtain ⟨i0, hi0, hz0, hz1, hz2⟩ := info_parts info_int
  have hmb : nt ≤ 1048576 := by omega
  clear h
  go_enter Try.func34, Try.ntmps34
  go_wp2
  clear c1 hlr hlb hlt hlp
  go_loopw [3, 4] (fun v i wr => ∃ k : Nat, k ≤ nt ∧ i = .int .i64 k ∧ Hid (ownsAt wr w.heap.size 3 1 v ((whichN T k).map (16 * ·)).length (ints ((whichN T k).map (16 * ·)))) ∧ Hid (Ext w wr)) (fun _ i _ => nt - (intOf i).toNat)
  case atStart => exact ⟨0, Nat.zero_le _, rfl, hid (ownsAt_nil _ _ _ _), hid (Ext.refl _)⟩
  case round =>
    obtain ⟨k, hk, rfl, HO, HE⟩ := hrel
    have hk0 : (0 : Int) ≤ (k : Int) := by omega
    have HM := hid (HH.out.ext HE.out)
    have c1 := HM.out.c1
    have hlr := HM.out.lr
    have hlt := HM.out.lt
    by_cases hlt' : k < nt
    · have hk1 : (k : Int) < (nt : Int) := by omega
      have hdt := (HM.out.tg k hlt').1
      have hwl := whichN_len T k
      cases hD : T k with
      | false =>
        rw [hD] at hdt
        have HW := hid (whichN_no hD)
        clear hD
        go_wp2
        go_roundw
        case rel => exact ⟨k + 1, by omega, by go_num, by rw [HW.out]; exact HO, HE⟩
        case measure => simp [intOf]; omega
      | true =>
        rw [hD] at hdt
        have HW := hid (whichN_yes hD)
        clear hD
        go_wp2_with (at_builtin; refine wpList_plain rfl fun K hK => ?_; refine wp_append_at _ _ _ 52 rfl w.heap.size 3 i0 _ 1 8 Try.underlying52 hi0 hz0 hz1 hz2 rfl (by decide) _ _ _ rfl (HO.out.ext (Ext.alloc (Ext.refl _) _)) ⟨wr.heap.size, 0, none⟩ 1 1 [.int .i64 (16 * (k : Int))] rfl rfl (fun j u hj => by rw [Addr.add_lit]; exact (Row.new wr #[.int .i64 (16 * (k : Int))] _).range j u hj) (fun u hu => by simp at hu; subst hu; rfl) (by unfold maxLen; (try simp only [List.length_map]); omega) (by (try simp only [List.length_map]); omega) (by have := HE.out.size; simp; omega) (by decide) ?_; intro v5 w5 hown5 hgrow5 hat5; refine hK _ _ ?_)
        have HO5 : Hid (ownsAt w5 w.heap.size 3 1 v5 ((whichN T (k + 1)).map (16 * ·)).length (ints ((whichN T (k + 1)).map (16 * ·)))) := hid (by
          rw [HW.out, List.map_append, ints_append, List.length_append]
          exact hown5)
        have HE5 : Hid (Ext w w5) := hid (Ext.only (HE.out.trans (Ext.alloc (Ext.refl _) _)) (grownOnly (S := fun i => w.heap.size ≤ i) hgrow5 (fun g e => (HO.out.lt g e).1)) (fun i hi => hi))
        clear hown5 hgrow5 hat5
        go_wp2
        go_roundw
        case rel => exact ⟨k + 1, by omega, by go_num, HO5, HE5⟩
        case measure => simp [intOf]; omega
    · obtain rfl : nt = k := by omega
      have hk1 : ¬ (nt : Int) < (nt : Int) := by omega
      obtain ⟨A, ca, rfl, _, _⟩ := HO.out.shape
      go_wp2
      go_ret
      exact ⟨A, ca, (by first | rfl | (rw [List.length_map]; rfl)), hid (HO.out.rdN rfl), HE, hid (fun b o e => by subst e; exact (HO.out.lt b rfl).1)⟩
set_option maxRecDepth 100000 in
set_option maxHeartbeats 4000000 in
theorem rmdirty_ (r gb gt gp n nb nt : Nat) (B : Nat → Int) (T D : Nat → Bool) (w : World) (h : Rm w r gb gt gp n nb nt B T D) : Calls Try.prog 36 #[.pointer (some ⟨r, 0, none⟩)] w fun e w' => RowNIs w (whichN D n) e w' := by
  have HH := hid h
  have c2 := h.c2
  have hlr := h.lr
  have hlb := h.lb
  have hlt := h.lt
  have hlp := h.lp
  have hbd := h.bd
  have heb : nb ≤ 16777216 := by have := h.eb; omega
  have het : nt ≤ 1048576 := by have := h.et; omega
  obtain ⟨e1, e2, e3, e4, e5, e6⟩ := h.ne
  obtain ⟨i0, hi0, hz0, hz1, hz2⟩ := info_parts info_int
  have hmb : n ≤ 1048576 := by omega
  clear h
  go_enter Try.func36, Try.ntmps36
  go_wp2
  clear c2 hlr hlb hlt hlp
  go_loopw [3, 4] (fun v i wr => ∃ k : Nat, k ≤ n ∧ i = .int .i64 k ∧ Hid (ownsAt wr w.heap.size 3 1 v (whichN D k).length (ints (whichN D k))) ∧ Hid (Ext w wr)) (fun _ i _ => n - (intOf i).toNat)
  case atStart => exact ⟨0, Nat.zero_le _, rfl, hid (ownsAt_nil _ _ _ _), hid (Ext.refl _)⟩
  case round =>
    obtain ⟨k, hk, rfl, HO, HE⟩ := hrel
    have hk0 : (0 : Int) ≤ (k : Int) := by omega
    have HM := hid (HH.out.ext HE.out)
    have c2 := HM.out.c2
    have hlr := HM.out.lr
    have hlp := HM.out.lp
    by_cases hlt' : k < n
    · have hk1 : (k : Int) < (n : Int) := by omega
      have hdt := (HM.out.dt k hlt').1
      have hwl := whichN_len D k
      cases hD : D k with
      | false =>
        rw [hD] at hdt
        have HW := hid (whichN_no hD)
        clear hD
        go_wp2
        go_roundw
        case rel => exact ⟨k + 1, by omega, by go_num, by rw [HW.out]; exact HO, HE⟩
        case measure => simp [intOf]; omega
      | true =>
        rw [hD] at hdt
        have HW := hid (whichN_yes hD)
        clear hD
        go_wp2_with (at_builtin; refine wpList_plain rfl fun K hK => ?_; refine wp_append_at _ _ _ 52 rfl w.heap.size 3 i0 _ 1 8 Try.underlying52 hi0 hz0 hz1 hz2 rfl (by decide) _ _ _ rfl (HO.out.ext (Ext.alloc (Ext.refl _) _)) ⟨wr.heap.size, 0, none⟩ 1 1 [.int .i64 (k : Int)] rfl rfl (fun j u hj => by rw [Addr.add_lit]; exact (Row.new wr #[.int .i64 (k : Int)] _).range j u hj) (fun u hu => by simp at hu; subst hu; rfl) (by unfold maxLen; (try simp only [List.length_map]); omega) (by (try simp only [List.length_map]); omega) (by have := HE.out.size; simp; omega) (by decide) ?_; intro v5 w5 hown5 hgrow5 hat5; refine hK _ _ ?_)
        have HO5 : Hid (ownsAt w5 w.heap.size 3 1 v5 (whichN D (k + 1)).length (ints (whichN D (k + 1)))) := hid (by
          rw [HW.out, ints_append, List.length_append]
          exact hown5)
        have HE5 : Hid (Ext w w5) := hid (Ext.only (HE.out.trans (Ext.alloc (Ext.refl _) _)) (grownOnly (S := fun i => w.heap.size ≤ i) hgrow5 (fun g e => (HO.out.lt g e).1)) (fun i hi => hi))
        clear hown5 hgrow5 hat5
        go_wp2
        go_roundw
        case rel => exact ⟨k + 1, by omega, by go_num, HO5, HE5⟩
        case measure => simp [intOf]; omega
    · obtain rfl : n = k := by omega
      have hk1 : ¬ (n : Int) < (n : Int) := by omega
      obtain ⟨A, ca, rfl, _, _⟩ := HO.out.shape
      go_wp2
      go_ret
      exact ⟨A, ca, (by first | rfl | (rw [List.length_map]; rfl)), hid (HO.out.rdN rfl), HE, hid (fun b o e => by subst e; exact (HO.out.lt b rfl).1)⟩
end Go.Proofs.Ythamfkbopjagdaa

namespace Go.Proofs.Ythamfkbopjagdaa
set_option maxRecDepth 100000
set_option linter.unusedSimpArgs false
set_option linter.unusedVariables false
open Go.RowKit

theorem clrT_one (T : Nat → Bool) (k : Nat) : clrT T (16 * k) 16 = upd1 T k false := by
  funext y
  unfold clrT upd1
  by_cases e : y = k
  · subst e
    rw [if_pos rfl]
    have h : decide (16 * y < 16 * y + 16 ∧ 16 * y < 16 * y + 16 ∧ 0 < 16) = true := decide_eq_true (by omega)
    rw [h]
    simp
  · rw [if_neg e]
    have h : decide (16 * y < 16 * k + 16 ∧ 16 * k < 16 * y + 16 ∧ 0 < 16) = false := decide_eq_false (by omega)
    rw [h]
    simp
theorem upd1_twice {α : Type} (f : Nat → α) (i : Nat) (u v : α) : upd1 (upd1 f i u) i v = upd1 f i v := by
  funext y
  unfold upd1
  split <;> rfl
theorem upd1_same {α : Type} (f : Nat → α) (i : Nat) (v : α) (h : f i = v) : upd1 f i v = f := by
  funext y
  unfold upd1
  split
  · rename_i e
    rw [e, h]
  · rfl
set_option maxRecDepth 100000 in
set_option maxHeartbeats 4000000 in
theorem rmsc_no (r gb gt gp n nb nt : Nat) (B : Nat → Int) (T' D : Nat → Bool) (w : World) (h : Rm w r gb gt gp n nb nt B T' D) (x : Int) (t : Bool) (b tp at_ pm ty : Int) (hc : ¬ (placeP n x ∧ rightC ⟨t, b, tp, at_, pm, ty⟩ = true)) : Calls Try.prog 19 #[.pointer (some ⟨r, 0, none⟩), .int .i64 x, .agg #[.bool t, .int .i64 b, .int .i64 tp, .int .i64 at_, .int .i64 pm, .int .i64 ty]] w fun e w' => e = .returned (.bool false) ∧ Ext w w' := by
  have HH := hid h
  by_cases hp : placeP n x
  · have HRT : Hid (rightC ⟨t, b, tp, at_, pm, ty⟩ = false) := hid (Bool.eq_false_iff.2 fun hr => hc ⟨hp, hr⟩)
    have HP := hid hp
    clear h hc hp
    go_enter Try.func19, Try.ntmps19
    go_upto_region 1 with (fail)
    refine wp_gen (fun W => Hid (Ext w W) ∧ Hid (CapB W w.heap.size [.bool t, .int .i64 b, .int .i64 tp, .int .i64 at_, .int .i64 pm, .int .i64 ty])) ⟨hid (by repeat (first | (with_reducible exact Ext.refl _) | (with_reducible refine Ext.undrew ?_) | (with_reducible refine Ext.grow ?_ _) | (with_reducible refine Ext.drew ?_) | (with_reducible refine Ext.drewN ?_ _) | (with_reducible refine Ext.alloc ?_ _) | (with_reducible assumption) | ((with_reducible refine Ext.setCell ?_ ?_ _); rotate_left; (first | exact Nat.le_refl _ | ((try dsimp only); (try simp only [World.size_alloc, grow_size, World.size_setCell]); omega))))), hid (CapB.new w _ _)⟩ ?_
    rintro W0 ⟨HX0, HC0⟩
    have HCN : Hid (r < w.heap.size ∧ gb < w.heap.size ∧ gt < w.heap.size ∧ gp < w.heap.size) := hid ⟨HH.out.lr, HH.out.lb, HH.out.lt, HH.out.lp⟩
    obtain ⟨cb, hcb⟩ : ∃ x, w.heap.size = x := ⟨_, rfl⟩
    rw [hcb] at HC0 HCN ⊢
    have HCB := hid hcb
    clear hcb
    have HM0 := hid (HH.out.ext HX0.out)
    have c0 : World.cell? W0 ⟨cb, 0, none⟩ = some (.bool t) := HC0.out.2 0 _ rfl
    have c1 : World.cell? W0 ⟨cb, 1, none⟩ = some (.int .i64 b) := HC0.out.2 1 _ rfl
    have c2 : World.cell? W0 ⟨cb, 2, none⟩ = some (.int .i64 tp) := HC0.out.2 2 _ rfl
    have c3 : World.cell? W0 ⟨cb, 3, none⟩ = some (.int .i64 at_) := HC0.out.2 3 _ rfl
    have c4 : World.cell? W0 ⟨cb, 4, none⟩ = some (.int .i64 pm) := HC0.out.2 4 _ rfl
    have c5 : World.cell? W0 ⟨cb, 5, none⟩ = some (.int .i64 ty) := HC0.out.2 5 _ rfl
    have cl := HC0.out.1
    go_wp2_with (first | (go_at_call 52; refine (rmplace_yes r gb gt gp n nb nt B T' D _ HM0.out x HP.out).mono ?_; rintro e w1 ⟨rfl, rfl⟩) | (go_at_call 53; refine (rcapRight _ _ _ _ _ _ _).mono ?_; rw [HRT.out]; rintro e W1 ⟨rfl, hx1⟩))
    go_ret
    exact ⟨rfl, HX0.out.trans hx1⟩
  · have HP := hid hp
    clear h hc hp
    go_enter Try.func19, Try.ntmps19
    go_upto_region 1 with (fail)
    refine wp_gen (fun W => Hid (Ext w W) ∧ Hid (CapB W w.heap.size [.bool t, .int .i64 b, .int .i64 tp, .int .i64 at_, .int .i64 pm, .int .i64 ty])) ⟨hid (by repeat (first | (with_reducible exact Ext.refl _) | (with_reducible refine Ext.undrew ?_) | (with_reducible refine Ext.grow ?_ _) | (with_reducible refine Ext.drew ?_) | (with_reducible refine Ext.drewN ?_ _) | (with_reducible refine Ext.alloc ?_ _) | (with_reducible assumption) | ((with_reducible refine Ext.setCell ?_ ?_ _); rotate_left; (first | exact Nat.le_refl _ | ((try dsimp only); (try simp only [World.size_alloc, grow_size, World.size_setCell]); omega))))), hid (CapB.new w _ _)⟩ ?_
    rintro W0 ⟨HX0, HC0⟩
    have HCN : Hid (r < w.heap.size ∧ gb < w.heap.size ∧ gt < w.heap.size ∧ gp < w.heap.size) := hid ⟨HH.out.lr, HH.out.lb, HH.out.lt, HH.out.lp⟩
    obtain ⟨cb, hcb⟩ : ∃ x, w.heap.size = x := ⟨_, rfl⟩
    rw [hcb] at HC0 HCN ⊢
    have HCB := hid hcb
    clear hcb
    have HM0 := hid (HH.out.ext HX0.out)
    go_wp2_with (go_at_call 52; refine (rmplace_no r gb gt gp n nb nt B T' D _ HM0.out x HP.out).mono ?_; rintro e w1 ⟨rfl, rfl⟩)
    go_ret
    exact ⟨rfl, HX0.out⟩
set_option maxRecDepth 100000 in
set_option maxHeartbeats 4000000 in
theorem rmsc_yes (r gb gt gp n nb nt : Nat) (B : Nat → Int) (T' D : Nat → Bool) (w : World) (h : Rm w r gb gt gp n nb nt B T' D) (x : Int) (k : Nat) (hk : k < 16 * n) (hx : x = 16 * (k : Int)) (t : Bool) (b tp at_ pm ty : Int) (hr : rightC ⟨t, b, tp, at_, pm, ty⟩ = true) : Calls Try.prog 19 #[.pointer (some ⟨r, 0, none⟩), .int .i64 x, .agg #[.bool t, .int .i64 b, .int .i64 tp, .int .i64 at_, .int .i64 pm, .int .i64 ty]] w fun e w' => e = .returned (.bool true) ∧ Hid (Rm w' r gb gt gp n nb nt (putB B (16 * k) (bytesC ⟨t, b, tp, at_, pm, ty⟩)) (upd1 T' k t) (upd1 D (k / 16) (D (k / 16) || t))) ∧ Hid (Only (Tri gb gt gp) w w') := by
  have HH := hid h
  obtain ⟨a, rfl⟩ : ∃ a : Nat, x = (a : Int) := ⟨x.toNat, by omega⟩
  have HA : Hid (a = 16 * k ∧ k < 16 * n ∧ nb = 256 * n ∧ nt = 16 * n ∧ n ≤ 65536) := hid ⟨by omega, hk, h.eb, h.et, h.bd.2⟩
  have HP : Hid (placeP n (a : Int)) := hid ⟨by omega, by omega, by omega⟩
  have HRT := hid hr
  have HK : Hid (16 * k = a) := hid HA.out.1.symm
  obtain ⟨p, hp⟩ : ∃ p, k / 16 = p := ⟨_, rfl⟩
  have HQ : Hid (p < n ∧ k / 16 = p) := hid ⟨by omega, hp⟩
  rw [HK.out, hp]
  clear h hx hr hk hp
  go_enter Try.func19, Try.ntmps19
  go_upto_region 1 with (fail)
  refine wp_gen (fun W => Hid (Ext w W) ∧ Hid (CapB W w.heap.size [.bool t, .int .i64 b, .int .i64 tp, .int .i64 at_, .int .i64 pm, .int .i64 ty])) ⟨hid (by repeat (first | (with_reducible exact Ext.refl _) | (with_reducible refine Ext.undrew ?_) | (with_reducible refine Ext.grow ?_ _) | (with_reducible refine Ext.drew ?_) | (with_reducible refine Ext.drewN ?_ _) | (with_reducible refine Ext.alloc ?_ _) | (with_reducible assumption) | ((with_reducible refine Ext.setCell ?_ ?_ _); rotate_left; (first | exact Nat.le_refl _ | ((try dsimp only); (try simp only [World.size_alloc, grow_size, World.size_setCell]); omega))))), hid (CapB.new w _ _)⟩ ?_
  rintro W0 ⟨HX0, HC0⟩
  have HCN : Hid (r < w.heap.size ∧ gb < w.heap.size ∧ gt < w.heap.size ∧ gp < w.heap.size) := hid ⟨HH.out.lr, HH.out.lb, HH.out.lt, HH.out.lp⟩
  obtain ⟨cb, hcb⟩ : ∃ x, w.heap.size = x := ⟨_, rfl⟩
  rw [hcb] at HC0 HCN ⊢
  have HCB := hid hcb
  clear hcb
  have HM0 := hid (HH.out.ext HX0.out)
  have c0 : World.cell? W0 ⟨cb, 0, none⟩ = some (.bool t) := HC0.out.2 0 _ rfl
  have c1 : World.cell? W0 ⟨cb, 1, none⟩ = some (.int .i64 b) := HC0.out.2 1 _ rfl
  have c2 : World.cell? W0 ⟨cb, 2, none⟩ = some (.int .i64 tp) := HC0.out.2 2 _ rfl
  have c3 : World.cell? W0 ⟨cb, 3, none⟩ = some (.int .i64 at_) := HC0.out.2 3 _ rfl
  have c4 : World.cell? W0 ⟨cb, 4, none⟩ = some (.int .i64 pm) := HC0.out.2 4 _ rfl
  have c5 : World.cell? W0 ⟨cb, 5, none⟩ = some (.int .i64 ty) := HC0.out.2 5 _ rfl
  have cl := HC0.out.1
  go_upto_region 3 with (first | (go_at_call 52; refine (rmplace_yes r gb gt gp n nb nt B T' D _ HM0.out (a : Int) HP.out).mono ?_; rintro e w1 ⟨rfl, rfl⟩) | (go_at_call 53; refine (rcapRight _ _ _ _ _ _ _).mono ?_; rw [HRT.out]; rintro e W1 ⟨rfl, hx1⟩))
  clear c0 c1 c2 c3 c4 c5 cl
  have HX1 := hid (HX0.out.trans hx1)
  have HC1 := hid (HC0.out.ext hx1)
  clear HM0 HC0 HX0 hx1
  have c0 : World.cell? W1 ⟨cb, 0, none⟩ = some (.bool t) := HC1.out.2 0 _ rfl
  have c1 : World.cell? W1 ⟨cb, 1, none⟩ = some (.int .i64 b) := HC1.out.2 1 _ rfl
  have c2 : World.cell? W1 ⟨cb, 2, none⟩ = some (.int .i64 tp) := HC1.out.2 2 _ rfl
  have c3 : World.cell? W1 ⟨cb, 3, none⟩ = some (.int .i64 at_) := HC1.out.2 3 _ rfl
  have c4 : World.cell? W1 ⟨cb, 4, none⟩ = some (.int .i64 pm) := HC1.out.2 4 _ rfl
  have c5 : World.cell? W1 ⟨cb, 5, none⟩ = some (.int .i64 ty) := HC1.out.2 5 _ rfl
  have cl := HC1.out.1
  go_upto_region 4 with (first | (go_at_call 54; refine (rput_yes t b tp at_ pm ty _ HRT.out).mono ?_; rintro e W2 ⟨qp, cp, rfl, hp1, hp2, hp3, HRp, hx2⟩) | (go_at_call 17; refine (rmstore_yes r gb gt gp n nb nt B T' D _ (HH.out.ext (HX1.out.trans hx2)) a (some ⟨qp, 0, none⟩) 16 cp (bytesC ⟨t, b, tp, at_, pm, ty⟩) (bytesC_length _) HRp (bytesC_byteL _) (by have := HA.out; omega) (fun _ b o e => by cases e; have := HCN.out; have := HX1.out.size; have := HCB.out; unfold Tri; omega)).mono ?_; rintro e W3 ⟨rfl, HM3, HO3⟩))
  clear c0 c1 c2 c3 c4 c5 cl
  have HO3' : Hid (Only (Tri gb gt gp) w W3) := hid (Only.trans' (Only.ofExt (HX1.out.trans hx2)) HO3.out)
  have hncb : ¬ Tri gb gt gp cb := by have := HCN.out; unfold Tri; omega
  have HC3 := hid ((HC1.out.ext hx2).only HO3.out hncb)
  clear HX1 HC1 hx2 HRp HO3 hp1 hp2 hp3
  have HT : Hid (clrT T' a 16 = upd1 T' k false) := hid (by rw [HA.out.1]; exact clrT_one T' k)
  rw [HT.out] at HM3
  have c0 : World.cell? W3 ⟨cb, 0, none⟩ = some (.bool t) := HC3.out.2 0 _ rfl
  have c1 : World.cell? W3 ⟨cb, 1, none⟩ = some (.int .i64 b) := HC3.out.2 1 _ rfl
  have c2 : World.cell? W3 ⟨cb, 2, none⟩ = some (.int .i64 tp) := HC3.out.2 2 _ rfl
  have c3 : World.cell? W3 ⟨cb, 3, none⟩ = some (.int .i64 at_) := HC3.out.2 3 _ rfl
  have c4 : World.cell? W3 ⟨cb, 4, none⟩ = some (.int .i64 pm) := HC3.out.2 4 _ rfl
  have c5 : World.cell? W3 ⟨cb, 5, none⟩ = some (.int .i64 ty) := HC3.out.2 5 _ rfl
  have cl := HC3.out.1
  have hcg : ¬ cb = gt := by have := HCN.out; omega
  have hrg : ¬ r = gt := HM3.out.ne.2.1
  have d1 := HM3.out.c1
  have hlr := HM3.out.lr
  have hlt := HM3.out.lt
  have hkt : k < nt := by have := HA.out; omega
  have hcT := (HM3.out.tg k hkt).1
  have hfT := (HM3.out.tg k hkt).2
  generalize upd1 T' k false k = tv at hcT
  have ha0 : (0 : Int) ≤ (a : Int) := by omega
  have hq : (a : Int) / 16 = (k : Int) := by have := HA.out.1; omega
  have hk0 : (0 : Int) ≤ (k : Int) := by omega
  have hk1 : (k : Int) < (nt : Int) := by omega
  have hntb : nt ≤ 1048576 := by have := HA.out; omega
  have hab : (a : Int) ≤ 16777216 := by have := HA.out; omega
  refine wp_region_turn (q := gt) (.rd 0 (.rd 1 (.rd 2 (.rd 3 (.rd 4 (.rd 5 (.rd 6 (.rd 7 (.rd 8 (.ac 9 .done)))))))))) (by kernel_rfl) (by kernel_rfl) (fun _ _ d _ _ h => by cases d <;> exact h) (by simp only [Ord.map, nthOp, List.append]; rfl) ?_
  intro d0
  repeat (refine turn_read (by rfl) (fun K hK => ?_); go_big_quiet_op; refine hK _ ?_; clear hK K)
  refine turn_act (by rfl) (fun K hK => ?_)
  go_wp2
  refine ⟨_, Only.refl _ _, (by rw [← grow_setCell _ _ _ _ _ hlt]; exact Only.setCell (S := (· = gt)) (Only.refl _ _) (.inl rfl) _), ?_⟩
  refine turn_nil ?_
  clear c0 c1 c2 c3 c4 c5 cl
  clear hcT hfT d1 hlr
  go_upto_region 5 with (fail)
  refine wp_gen (fun W => Hid (Rm W r gb gt gp n nb nt (putB B a (bytesC ⟨t, b, tp, at_, pm, ty⟩)) (upd1 T' k t) D) ∧ Hid (Only (Tri gb gt gp) w W) ∧ Hid (CapB W cb [.bool t, .int .i64 b, .int .i64 tp, .int .i64 at_, .int .i64 pm, .int .i64 ty])) ⟨hid (by rw [← upd1_twice T' k false t]; exact (HM3.out.setT hkt t).ext (Ext.grow (Ext.refl _) d0)), hid ((Only.setCell HO3'.out (.inl (.inr (.inl rfl))) _).transExt (Ext.grow (Ext.refl _) d0)), hid ((HC3.out.only (Only.setCell (S := (· = gt)) (Only.refl _ _) (.inl rfl) _) hcg).ext (Ext.grow (Ext.refl _) d0))⟩ ?_
  rintro W4 ⟨HM4, HO4, HC4⟩
  clear HM3 HO3' HC3 hlt
  cases t with
  | false =>
    have c0 : World.cell? W4 ⟨cb, 0, none⟩ = some (.bool false) := HC4.out.2 0 _ rfl
    have c1 : World.cell? W4 ⟨cb, 1, none⟩ = some (.int .i64 b) := HC4.out.2 1 _ rfl
    have c2 : World.cell? W4 ⟨cb, 2, none⟩ = some (.int .i64 tp) := HC4.out.2 2 _ rfl
    have c3 : World.cell? W4 ⟨cb, 3, none⟩ = some (.int .i64 at_) := HC4.out.2 3 _ rfl
    have c4 : World.cell? W4 ⟨cb, 4, none⟩ = some (.int .i64 pm) := HC4.out.2 4 _ rfl
    have c5 : World.cell? W4 ⟨cb, 5, none⟩ = some (.int .i64 ty) := HC4.out.2 5 _ rfl
    have cl := HC4.out.1
    go_wp2
    go_ret
    exact ⟨rfl, by rw [Bool.or_false, upd1_same D p (D p) rfl]; exact HM4, HO4⟩
  | true =>
    have c0 : World.cell? W4 ⟨cb, 0, none⟩ = some (.bool true) := HC4.out.2 0 _ rfl
    have c1 : World.cell? W4 ⟨cb, 1, none⟩ = some (.int .i64 b) := HC4.out.2 1 _ rfl
    have c2 : World.cell? W4 ⟨cb, 2, none⟩ = some (.int .i64 tp) := HC4.out.2 2 _ rfl
    have c3 : World.cell? W4 ⟨cb, 3, none⟩ = some (.int .i64 at_) := HC4.out.2 3 _ rfl
    have c4 : World.cell? W4 ⟨cb, 4, none⟩ = some (.int .i64 pm) := HC4.out.2 4 _ rfl
    have c5 : World.cell? W4 ⟨cb, 5, none⟩ = some (.int .i64 ty) := HC4.out.2 5 _ rfl
    have cl := HC4.out.1
    have hpn : p < n := HQ.out.1
    have d2 := HM4.out.c2
    have hlr := HM4.out.lr
    have hlp := HM4.out.lp
    have hcD := (HM4.out.dt p hpn).1
    have hfD := (HM4.out.dt p hpn).2
    have HM5 := hid (HM4.out.setD hpn true)
    have HO5 : Hid (Only (Tri gb gt gp) w (W4.setCell ⟨gp, p, none⟩ (.bool true))) := hid (Only.setCell HO4.out (.inl (.inr (.inr rfl))) _)
    have hqp : (a : Int) / 256 = (p : Int) := by have := HA.out.1; have := HQ.out.2; omega
    have hp0 : (0 : Int) ≤ (p : Int) := by omega
    have hp1 : (p : Int) < (n : Int) := by omega
    have hnb : n ≤ 65536 := HA.out.2.2.2.2
    have HB : Hid ((D p || true) = true) := hid (Bool.or_true _)
    clear HM4 HO4 hq
    go_wp2
    go_ret
    exact ⟨rfl, by first | exact HM5 | (rw [HB.out]; exact HM5), HO5⟩
set_option maxRecDepth 100000 in
set_option maxHeartbeats 4000000 in
theorem rmlc_no (r gb gt gp n nb nt : Nat) (B : Nat → Int) (T D : Nat → Bool) (w : World) (h : Rm w r gb gt gp n nb nt B T D) (x : Int) (hc : ¬ placeP n x) : Calls Try.prog 73 #[.pointer (some ⟨r, 0, none⟩), .int .i64 x] w fun e w' => e = .returned (.tuple #[.agg #[.bool false, .int .i64 0, .int .i64 0, .int .i64 0, .int .i64 0, .int .i64 0], .bool false]) ∧ Ext w w' := by
  have HH := hid h
  have HC := hid hc
  have hlr := h.lr
  clear h hc
  go_enter Try.func73, Try.ntmps73
  go_wp2_with (go_at_call 52; refine (rmplace_no r gb gt gp n nb nt B T D _ (HH.out.ext (by repeat (first | (with_reducible exact Ext.refl _) | (with_reducible refine Ext.undrew ?_) | (with_reducible refine Ext.grow ?_ _) | (with_reducible refine Ext.drew ?_) | (with_reducible refine Ext.drewN ?_ _) | (with_reducible refine Ext.alloc ?_ _) | (with_reducible assumption) | ((with_reducible refine Ext.setCell ?_ ?_ _); rotate_left; (first | exact Nat.le_refl _ | ((try dsimp only); (try simp only [World.size_alloc, grow_size, World.size_setCell]); omega)))))) x HC.out).mono ?_; rintro e w1 ⟨rfl, rfl⟩)
  refine bodyPost_ret (v := .tuple #[.agg #[.bool false, .int .i64 0, .int .i64 0, .int .i64 0, .int .i64 0, .int .i64 0], .bool false]) (by simp [results, Try.results73, go_sem]) rfl ?_
  exact ⟨rfl, (by repeat (first | (with_reducible exact Ext.refl _) | (with_reducible refine Ext.undrew ?_) | (with_reducible refine Ext.grow ?_ _) | (with_reducible refine Ext.drew ?_) | (with_reducible refine Ext.drewN ?_ _) | (with_reducible refine Ext.alloc ?_ _) | (with_reducible assumption) | ((with_reducible refine Ext.setCell ?_ ?_ _); rotate_left; (first | exact Nat.le_refl _ | ((try dsimp only); (try simp only [World.size_alloc, grow_size, World.size_setCell]); omega)))))⟩
set_option maxRecDepth 100000 in
set_option maxHeartbeats 4000000 in
theorem trget_ (b o ca : Nat) (L : List Int) (tag : Bool) (w : World) (hL : L.length = 16) (hl : byteL L) (hr : RdB w (some ⟨b, o, none⟩) L) (hca : 16 ≤ ca) (hcm : ca ≤ maxLen) : Calls Try.prog 83 #[.slice (some ⟨b, o, none⟩) 16 ca, .bool tag] w fun e w' => e = .returned (.tuple #[.agg #[.bool (getL L tag).tag, .int .i64 (getL L tag).base, .int .i64 (getL L tag).top, .int .i64 (getL L tag).at_, .int .i64 (getL L tag).perms, .int .i64 (getL L tag).type], .bool true]) ∧ Ext w w' := by
  obtain ⟨x0, x1, x2, x3, x4, x5, x6, x7, x8, x9, x10, x11, x12, x13, x14, x15, rfl⟩ := sixteen hL
  exact rget_yes b o ca x0 x1 x2 x3 x4 x5 x6 x7 x8 x9 x10 x11 x12 x13 x14 x15 tag w hr hca hcm (hl x0 (by simp)).1 (hl x0 (by simp)).2 (hl x1 (by simp)).1 (hl x1 (by simp)).2 (hl x2 (by simp)).1 (hl x2 (by simp)).2 (hl x3 (by simp)).1 (hl x3 (by simp)).2 (hl x4 (by simp)).1 (hl x4 (by simp)).2 (hl x5 (by simp)).1 (hl x5 (by simp)).2 (hl x6 (by simp)).1 (hl x6 (by simp)).2 (hl x7 (by simp)).1 (hl x7 (by simp)).2 (hl x8 (by simp)).1 (hl x8 (by simp)).2 (hl x9 (by simp)).1 (hl x9 (by simp)).2 (hl x10 (by simp)).1 (hl x10 (by simp)).2 (hl x11 (by simp)).1 (hl x11 (by simp)).2 (hl x12 (by simp)).1 (hl x12 (by simp)).2 (hl x13 (by simp)).1 (hl x13 (by simp)).2 (hl x14 (by simp)).1 (hl x14 (by simp)).2 (hl x15 (by simp)).1 (hl x15 (by simp)).2
set_option maxRecDepth 100000 in
set_option maxHeartbeats 4000000 in
theorem rmlc_yes (r gb gt gp n nb nt : Nat) (B : Nat → Int) (T D : Nat → Bool) (w : World) (h : Rm w r gb gt gp n nb nt B T D) (x : Int) (k : Nat) (hk : k < 16 * n) (hx : x = 16 * (k : Int)) : Calls Try.prog 73 #[.pointer (some ⟨r, 0, none⟩), .int .i64 x] w fun e w' => e = .returned (.tuple #[.agg #[.bool (getL (bytesAt B (16 * k) 16) (T k)).tag, .int .i64 (getL (bytesAt B (16 * k) 16) (T k)).base, .int .i64 (getL (bytesAt B (16 * k) 16) (T k)).top, .int .i64 (getL (bytesAt B (16 * k) 16) (T k)).at_, .int .i64 (getL (bytesAt B (16 * k) 16) (T k)).perms, .int .i64 (getL (bytesAt B (16 * k) 16) (T k)).type], .bool true]) ∧ Ext w w' := by
  have HH := hid h
  obtain ⟨a, rfl⟩ : ∃ a : Nat, x = (a : Int) := ⟨x.toNat, by omega⟩
  have HA : Hid (a = 16 * k ∧ k < 16 * n ∧ nb = 256 * n ∧ nt = 16 * n ∧ n ≤ 65536) := hid ⟨by omega, hk, h.eb, h.et, h.bd.2⟩
  have HP : Hid (placeP n (a : Int)) := hid ⟨by omega, by omega, by omega⟩
  have HK : Hid (16 * k = a) := hid HA.out.1.symm
  rw [HK.out]
  have ha0 : (0 : Int) ≤ (a : Int) := by omega
  have hq : (a : Int) / 16 = (k : Int) := by have := HA.out.1; omega
  have hk0 : (0 : Int) ≤ (k : Int) := by omega
  have hkn : k < nt := by have := HA.out; omega
  have hk1 : (k : Int) < (nt : Int) := by omega
  have hntb : nt ≤ 1048576 := by have := HA.out; omega
  have hnbb : nb ≤ 16777216 := by have := HA.out; omega
  have hab : (a : Int) + 16 ≤ (nb : Int) := by have := HA.out; omega
  have hab2 : (a : Int) ≤ (a : Int) + 16 := by omega
  have hab3 : (a : Int) ≤ (nb : Int) := by omega
  have hab4 : (0 : Int) ≤ (a : Int) + 16 := by omega
  have hcj : ¬ nb = a := by omega
  have hcj2 : ¬ nb - a = 0 := by omega
  have d0_ := h.c0
  have d1_ := h.c1
  have hlr := h.lr
  have hlb := h.lb
  have hlt := h.lt
  have htg := (h.tg k hkn).1
  have HR := hid (h.rd a 16 (by omega))
  have HBL := hid (bytesAt_byteL h.rg a 16)
  have HLE : Hid ((bytesAt B a 16).length = 16) := hid (bytesAt_length _ _ _)
  clear h hx hk
  generalize bytesAt B a 16 = L at HR HBL HLE ⊢
  generalize T k = tg at htg ⊢
  go_enter Try.func73, Try.ntmps73
  go_upto_region 3 with (go_at_call 52; refine (rmplace_yes r gb gt gp n nb nt B T D _ (HH.out.ext (by repeat (first | (with_reducible exact Ext.refl _) | (with_reducible refine Ext.undrew ?_) | (with_reducible refine Ext.grow ?_ _) | (with_reducible refine Ext.drew ?_) | (with_reducible refine Ext.drewN ?_ _) | (with_reducible refine Ext.alloc ?_ _) | (with_reducible assumption) | ((with_reducible refine Ext.setCell ?_ ?_ _); rotate_left; (first | exact Nat.le_refl _ | ((try dsimp only); (try simp only [World.size_alloc, grow_size, World.size_setCell]); omega)))))) (a : Int) HP.out).mono ?_; rintro e w1 ⟨rfl, rfl⟩)
  refine wp_region_step (.rd 0 (.rd 1 (.rd 2 (.rd 3 (.rd 4 (.rd 5 (.rd 6 (.rd 7 (.rd 8 (.rd 9 (.rd 10 (.rd 11 (.rd 12 (.rd 13 (.rd 14 (.rd 15 (.br 16 (.rd 17 (.rd 18 (.rd 19 (.ac 20 (.ac 21 (.rd 22 .done)))))) 20 (.ac 16 (.rd 17 (.rd 18 (.rd 19 (.ac 21 (.rd 22 .done))))))))))))))))))))))) (by kernel_rfl) (by kernel_rfl) (fun _ _ d _ _ h => by cases d <;> exact h) (by simp only [Ord.map, nthOp, List.append]; rfl) ?_
  intro d0
  repeat' (first | (refine step_read (by rfl) (fun K hK => ?_); go_big_quiet_op; refine hK _ ?_; clear hK K) | (refine step_act (by rfl) (fun K hK => ?_); go_wp2_with (first | (go_at_call 83; refine (trget_ gb a (nb - a) L tg _ HLE.out HBL.out (HR.out.ext (by repeat (first | (with_reducible exact Ext.refl _) | (with_reducible refine Ext.undrew ?_) | (with_reducible refine Ext.grow ?_ _) | (with_reducible refine Ext.drew ?_) | (with_reducible refine Ext.drewN ?_ _) | (with_reducible refine Ext.alloc ?_ _) | (with_reducible assumption) | ((with_reducible refine Ext.setCell ?_ ?_ _); rotate_left; (first | exact Nat.le_refl _ | ((try dsimp only); (try simp only [World.size_alloc, grow_size, World.size_setCell]); omega)))))) (by omega) (by unfold maxLen; omega)).mono ?_; rintro e w5 ⟨rfl, hx5⟩; obtain ⟨d5, rfl⟩ := hx5.grown; clear hx5)); refine ⟨_, Ext.refl _, (by repeat (first | (with_reducible exact Ext.refl _) | (with_reducible refine Ext.undrew ?_) | (with_reducible refine Ext.grow ?_ _) | (with_reducible refine Ext.drew ?_) | (with_reducible refine Ext.drewN ?_ _) | (with_reducible refine Ext.alloc ?_ _) | (with_reducible assumption) | ((with_reducible refine Ext.setCell ?_ ?_ _); rotate_left; (first | exact Nat.le_refl _ | ((try dsimp only); (try simp only [World.size_alloc, grow_size, World.size_setCell]); omega))))), ?_⟩) | refine step_br ?_ ?_)
  all_goals refine step_nil ?_
  all_goals go_wp2
  all_goals refine bodyPost_ret (v := .tuple #[.agg #[.bool (getL L tg).tag, .int .i64 (getL L tg).base, .int .i64 (getL L tg).top, .int .i64 (getL L tg).at_, .int .i64 (getL L tg).perms, .int .i64 (getL L tg).type], .bool true]) (by simp [results, Try.results73, go_sem]) rfl ?_
  all_goals exact ⟨rfl, (by repeat (first | (with_reducible exact Ext.refl _) | (with_reducible refine Ext.undrew ?_) | (with_reducible refine Ext.grow ?_ _) | (with_reducible refine Ext.drew ?_) | (with_reducible refine Ext.drewN ?_ _) | (with_reducible refine Ext.alloc ?_ _) | (with_reducible assumption) | ((with_reducible refine Ext.setCell ?_ ?_ _); rotate_left; (first | exact Nat.le_refl _ | ((try dsimp only); (try simp only [World.size_alloc, grow_size, World.size_setCell]); omega)))))⟩
end Go.Proofs.Ythamfkbopjagdaa

namespace Go.Proofs.Ythamfkbopjagdaa
set_option maxRecDepth 100000
set_option linter.unusedSimpArgs false
set_option linter.unusedVariables false
open Go.RowKit

def capOkB (n : Nat) (x : Int) (c : Cap) : Bool := decide (capOk n x c)
instance (n : Nat) (x : Int) : Decidable (placeP n x) := by unfold placeP; infer_instance
instance (n : Nat) (x m : Int) : Decidable (spanP n x m) := by unfold spanP; infer_instance
def tagAt (n : Nat) (T : Nat → Bool) (x : Int) : Bool := decide (placeP n x) && T (x.toNat / 16)
def stripT (n : Nat) (x : Int) (T : Nat → Bool) : Nat → Bool := if tagAt n T x = true then upd1 T (x.toNat / 16) false else T
def cleanB (n : Nat) (x : Int) (T : Nat → Bool) : Bool := decide (0 ≤ x ∧ x < (n : Int)) && !anyB (fun j => T (16 * x.toNat + j))
def cleanD (n : Nat) (x : Int) (T D : Nat → Bool) : Nat → Bool := if cleanB n x T = true then upd1 D x.toNat false else D
def spanB (n : Nat) (x : Int) (m : Nat) : Bool := decide (spanP n x m)
def stoB (n : Nat) (x : Int) (l : List Int) (B : Nat → Int) : Nat → Int := if spanB n x l.length = true then putB B x.toNat l else B
def stoT (n : Nat) (x : Int) (m : Nat) (T : Nat → Bool) : Nat → Bool := if spanB n x m = true then clrT T x.toNat m else T
theorem placeP_k {n : Nat} {x : Int} (h : placeP n x) : ∃ k : Nat, k < 16 * n ∧ x = 16 * (k : Int) ∧ x.toNat / 16 = k ∧ x.toNat = 16 * k := by
  obtain ⟨h1, h2, h3⟩ := h
  exact ⟨(x / 16).toNat, by omega, by omega, by omega, by omega⟩
theorem fSc (w W : World) (q g n : Nat) (B : Nat → Int) (T D : Nat → Bool) (h : HM w W q g n B T D) (x : Int) (t : Bool) (b tp at_ pm ty : Int) : Calls Try.prog 18 #[.pointer (some ⟨q, 0, none⟩), .int .i64 x, .agg #[.bool t, .int .i64 b, .int .i64 tp, .int .i64 at_, .int .i64 pm, .int .i64 ty]] W fun e W' => e = .returned (.bool (capOkB n x ⟨t, b, tp, at_, pm, ty⟩)) ∧ Hid (HM w W' q g n (capB n x ⟨t, b, tp, at_, pm, ty⟩ B) (capT n x ⟨t, b, tp, at_, pm, ty⟩ T) (capD n x ⟨t, b, tp, at_, pm, ty⟩ D)) ∧ Hid (Only (· = g) W W') := by
  by_cases hs : capOk n x ⟨t, b, tp, at_, pm, ty⟩
  · unfold capB capT capD capOkB
    rw [if_pos hs, if_pos hs, if_pos hs, decide_eq_true hs]
    refine (hScYes w W q g n B T D h x t b tp at_ pm ty hs.1 hs.2).mono ?_
    rintro e W' ⟨p, i, hp, hi, hx, rfl, hm, ho⟩
    rw [show x.toNat = 256 * p + 16 * i by omega, show (256 * p + 16 * i) / 16 = 16 * p + i by omega, show (256 * p + 16 * i) / 256 = p by omega]
    exact ⟨rfl, hm, ho⟩
  · unfold capB capT capD capOkB
    rw [if_neg hs, if_neg hs, if_neg hs, decide_eq_false hs]
    refine (hScNo w W q g n B T D h x t b tp at_ pm ty hs).mono ?_
    rintro e W' ⟨rfl, hm, hx⟩
    exact ⟨rfl, hm, hid (Only.ofExt hx.out)⟩
theorem rSc (W : World) (r gb gt gp n nb nt : Nat) (B : Nat → Int) (T D : Nat → Bool) (h : Rm W r gb gt gp n nb nt B T D) (x : Int) (t : Bool) (b tp at_ pm ty : Int) : Calls Try.prog 19 #[.pointer (some ⟨r, 0, none⟩), .int .i64 x, .agg #[.bool t, .int .i64 b, .int .i64 tp, .int .i64 at_, .int .i64 pm, .int .i64 ty]] W fun e W' => e = .returned (.bool (capOkB n x ⟨t, b, tp, at_, pm, ty⟩)) ∧ Hid (Rm W' r gb gt gp n nb nt (capB n x ⟨t, b, tp, at_, pm, ty⟩ B) (capT n x ⟨t, b, tp, at_, pm, ty⟩ T) (capD n x ⟨t, b, tp, at_, pm, ty⟩ D)) ∧ Hid (Only (Tri gb gt gp) W W') := by
  by_cases hs : capOk n x ⟨t, b, tp, at_, pm, ty⟩
  · obtain ⟨k, hk, hx, hk1, hk2⟩ := placeP_k hs.1
    unfold capB capT capD capOkB
    rw [if_pos hs, if_pos hs, if_pos hs, decide_eq_true hs, hk1, show x.toNat / 256 = k / 16 by omega, hk2]
    exact rmsc_yes r gb gt gp n nb nt B T D W h x k hk hx t b tp at_ pm ty hs.2
  · unfold capB capT capD capOkB
    rw [if_neg hs, if_neg hs, if_neg hs, decide_eq_false hs]
    refine (rmsc_no r gb gt gp n nb nt B T D W h x t b tp at_ pm ty hs).mono ?_
    rintro e W' ⟨rfl, hx⟩
    exact ⟨rfl, hid (h.ext hx), hid (Only.ofExt hx)⟩
theorem fTag (w W : World) (q g n : Nat) (B : Nat → Int) (T D : Nat → Bool) (h : HM w W q g n B T D) (x : Int) : Calls Try.prog 81 #[.pointer (some ⟨q, 0, none⟩), .int .i64 x] W fun e W' => e = .returned (.bool (tagAt n T x)) ∧ W = W' := by
  unfold tagAt
  by_cases hs : placeP n x
  · obtain ⟨p, i, hp, hi, hx⟩ := placeP_parts hs
    rw [decide_eq_true hs, Bool.true_and, show x.toNat / 16 = 16 * p + i by omega]
    exact ttag_yes q g n B T D W h.1 x p i hp hi hx
  · rw [decide_eq_false hs, Bool.false_and]
    exact ttag_no q g n B T D W h.1 x hs
theorem rTag (W : World) (r gb gt gp n nb nt : Nat) (B : Nat → Int) (T D : Nat → Bool) (h : Rm W r gb gt gp n nb nt B T D) (x : Int) : Calls Try.prog 84 #[.pointer (some ⟨r, 0, none⟩), .int .i64 x] W fun e W' => e = .returned (.bool (tagAt n T x)) ∧ W = W' := by
  unfold tagAt
  by_cases hs : placeP n x
  · obtain ⟨k, hk, hx, hk1, hk2⟩ := placeP_k hs
    rw [decide_eq_true hs, Bool.true_and, hk1]
    exact rmtag_yes r gb gt gp n nb nt B T D W h x k hk hx
  · rw [decide_eq_false hs, Bool.false_and]
    exact rmtag_no r gb gt gp n nb nt B T D W h x hs
theorem fStrip (w W : World) (q g n : Nat) (B : Nat → Int) (T D : Nat → Bool) (h : HM w W q g n B T D) (x : Int) : Calls Try.prog 71 #[.pointer (some ⟨q, 0, none⟩), .int .i64 x] W fun e W' => e = .returned (.bool (tagAt n T x)) ∧ Hid (HM w W' q g n (B) (stripT n x T) (D)) ∧ Hid (Only (· = g) W W') := by
  refine (hStrip w W q g n B T D h x).mono ?_
  rintro e W' ⟨b, rfl, ho, hb⟩
  rcases hb with ⟨rfl, hm, hc⟩ | ⟨rfl, p, i, hp, hi, hx, ht, hm⟩
  · have hf : tagAt n T x = false := by
      unfold tagAt
      rcases hc with hc | ⟨p, i, hp, hi, hx, ht⟩
      · rw [decide_eq_false hc, Bool.false_and]
      · rw [show x.toNat / 16 = 16 * p + i by omega, ht, Bool.and_false]
    unfold stripT
    rw [hf]
    exact ⟨rfl, hm, ho⟩
  · have hf : tagAt n T x = true := by
      unfold tagAt
      rw [show x.toNat / 16 = 16 * p + i by omega, ht, Bool.and_true]
      exact decide_eq_true ⟨by omega, by omega, by omega⟩
    unfold stripT
    rw [hf, if_pos rfl, show x.toNat / 16 = 16 * p + i by omega]
    exact ⟨rfl, hm, ho⟩
theorem rStrip (W : World) (r gb gt gp n nb nt : Nat) (B : Nat → Int) (T D : Nat → Bool) (h : Rm W r gb gt gp n nb nt B T D) (x : Int) : Calls Try.prog 74 #[.pointer (some ⟨r, 0, none⟩), .int .i64 x] W fun e W' => e = .returned (.bool (tagAt n T x)) ∧ Hid (Rm W' r gb gt gp n nb nt (B) (stripT n x T) (D)) ∧ Hid (Only (Tri gb gt gp) W W') := by
  unfold stripT tagAt
  by_cases hs : placeP n x
  · obtain ⟨k, hk, hx, hk1, hk2⟩ := placeP_k hs
    rw [decide_eq_true hs, Bool.true_and, hk1]
    cases ht : T k with
    | true =>
      rw [if_pos rfl]
      exact rmstrip_yes r gb gt gp n nb nt B T D W h x k hk hx ht
    | false =>
      rw [if_neg Bool.false_ne_true]
      refine (rmstrip_no1 r gb gt gp n nb nt B T D W h x k hk hx ht).mono ?_
      rintro e W' ⟨rfl, rfl⟩
      exact ⟨rfl, hid h, hid (Only.refl _ _)⟩
  · rw [decide_eq_false hs, Bool.false_and, if_neg Bool.false_ne_true]
    refine (rmstrip_no2 r gb gt gp n nb nt B T D W h x hs).mono ?_
    rintro e W' ⟨rfl, rfl⟩
    exact ⟨rfl, hid h, hid (Only.refl _ _)⟩
theorem fClean (w W : World) (q g n : Nat) (B : Nat → Int) (T D : Nat → Bool) (h : HM w W q g n B T D) (x : Int) : Calls Try.prog 72 #[.pointer (some ⟨q, 0, none⟩), .int .i64 x] W fun e W' => e = .returned (.bool (cleanB n x T)) ∧ Hid (HM w W' q g n (B) (T) (cleanD n x T D)) ∧ Hid (Only (· = g) W W') := by
  refine (hClean w W q g n B T D h x).mono ?_
  rintro e W' ⟨b, rfl, ho, hb⟩
  rcases hb with ⟨rfl, hm, hc⟩ | ⟨rfl, p, hp, hx, ht, hm⟩
  · have hf : cleanB n x T = false := by
      unfold cleanB
      rcases hc with hc | hc | ⟨p, hp, hx, ht⟩
      · rw [decide_eq_false (by omega), Bool.false_and]
      · rw [decide_eq_false (by omega), Bool.false_and]
      · rw [show x.toNat = p by omega, ht, Bool.not_true, Bool.and_false]
    unfold cleanD
    rw [hf]
    exact ⟨rfl, hm, ho⟩
  · have hf : cleanB n x T = true := by
      unfold cleanB
      rw [show x.toNat = p by omega, ht, Bool.not_false, Bool.and_true]
      exact decide_eq_true (by omega)
    unfold cleanD
    rw [hf, if_pos rfl, show x.toNat = p by omega]
    exact ⟨rfl, hm, ho⟩
theorem rClean (W : World) (r gb gt gp n nb nt : Nat) (B : Nat → Int) (T D : Nat → Bool) (h : Rm W r gb gt gp n nb nt B T D) (x : Int) : Calls Try.prog 75 #[.pointer (some ⟨r, 0, none⟩), .int .i64 x] W fun e W' => e = .returned (.bool (cleanB n x T)) ∧ Hid (Rm W' r gb gt gp n nb nt (B) (T) (cleanD n x T D)) ∧ Hid (Only (Tri gb gt gp) W W') := by
  unfold cleanD cleanB
  by_cases hs : 0 ≤ x ∧ x < (n : Int)
  · obtain ⟨p, rfl⟩ : ∃ p : Nat, x = (p : Int) := ⟨x.toNat, by omega⟩
    rw [decide_eq_true hs, Bool.true_and, Int.toNat_natCast]
    cases ha : anyB (fun j => T (16 * p + j)) with
    | true =>
      rw [Bool.not_true, if_neg Bool.false_ne_true]
      refine (rmclean_any r gb gt gp n nb nt B T D W h p (by omega) ha).mono ?_
      rintro e W' ⟨rfl, rfl⟩
      exact ⟨rfl, hid h, hid (Only.refl _ _)⟩
    | false =>
      rw [Bool.not_false, if_pos rfl]
      exact rmclean_yes r gb gt gp n nb nt B T D W h p (by omega) ha
  · rw [decide_eq_false hs, Bool.false_and, if_neg Bool.false_ne_true]
    refine (rmclean_no r gb gt gp n nb nt B T D W h x (by omega)).mono ?_
    rintro e W' ⟨rfl, rfl⟩
    exact ⟨rfl, hid h, hid (Only.refl _ _)⟩
theorem fSto (w W : World) (q g n : Nat) (B : Nat → Int) (T D : Nat → Bool) (h : HM w W q g n B T D) (x : Int) (A : Option Addr) (m ca : Nat) (l : List Int) (hm : l.length = m) (hr : RdB W A l) (hl : byteL l) (hca : m ≤ ca) (hA : 0 < m → ∀ b o, A = some ⟨b, o, none⟩ → ¬ b = g) : Calls Try.prog 16 #[.pointer (some ⟨q, 0, none⟩), .int .i64 x, .slice A m ca] W fun e W' => e = .returned (.bool (spanB n x m)) ∧ Hid (HM w W' q g n (stoB n x l B) (stoT n x m T) (D)) ∧ Hid (Only (· = g) W W') := by
  unfold stoB stoT spanB
  rw [hm]
  by_cases hs : spanP n x m
  · rw [decide_eq_true hs, if_pos rfl, if_pos rfl]
    refine (hStYes w W q g n B T D h x A m ca l hm hr hl hca hA hs).mono ?_
    rintro e W' ⟨a, ha, rfl, hmm, ho⟩
    rw [hm] at hmm
    rw [show x.toNat = a by omega]
    exact ⟨rfl, hmm, ho⟩
  · rw [decide_eq_false hs, if_neg Bool.false_ne_true, if_neg Bool.false_ne_true]
    refine (hStNo w W q g n B T D h x A m ca hs).mono ?_
    rintro e W' ⟨rfl, hmm, hx⟩
    exact ⟨rfl, hmm, hid (Only.ofExt hx.out)⟩
theorem rSto (W : World) (r gb gt gp n nb nt : Nat) (B : Nat → Int) (T D : Nat → Bool) (h : Rm W r gb gt gp n nb nt B T D) (x : Int) (A : Option Addr) (m ca : Nat) (l : List Int) (hm : l.length = m) (hr : RdB W A l) (hl : byteL l) (hca : m ≤ ca) (hA : 0 < m → ∀ b o, A = some ⟨b, o, none⟩ → ¬ Tri gb gt gp b) : Calls Try.prog 17 #[.pointer (some ⟨r, 0, none⟩), .int .i64 x, .slice A m ca] W fun e W' => e = .returned (.bool (spanB n x m)) ∧ Hid (Rm W' r gb gt gp n nb nt (stoB n x l B) (stoT n x m T) (D)) ∧ Hid (Only (Tri gb gt gp) W W') := by
  unfold stoB stoT spanB
  rw [hm]
  by_cases hs : spanP n x m
  · rw [decide_eq_true hs, if_pos rfl, if_pos rfl]
    obtain ⟨h0, h1, h2, h3⟩ := hs
    obtain ⟨a, rfl⟩ : ∃ a : Nat, x = (a : Int) := ⟨x.toNat, by omega⟩
    rw [Int.toNat_natCast]
    exact rmstore_yes r gb gt gp n nb nt B T D W h a A m ca l hm hr hl (by omega) hA
  · rw [decide_eq_false hs, if_neg Bool.false_ne_true, if_neg Bool.false_ne_true]
    refine (rmstore_no r gb gt gp n nb nt B T D W h x A m ca hs).mono ?_
    rintro e W' ⟨rfl, rfl⟩
    exact ⟨rfl, hid h, hid (Only.refl _ _)⟩
theorem fLc (w W : World) (q g n : Nat) (B : Nat → Int) (T D : Nat → Bool) (h : HM w W q g n B T D) (x : Int) (k : Nat) (hk : k < 16 * n) (hx : x = 16 * (k : Int)) (c : Cap) (hc : getL (bytesAt B (16 * k) 16) (T k) = c) : Calls Try.prog 42 #[.pointer (some ⟨q, 0, none⟩), .int .i64 x] W fun e W' => e = .returned (.tuple #[.agg #[.bool (c).tag, .int .i64 (c).base, .int .i64 (c).top, .int .i64 (c).at_, .int .i64 (c).perms, .int .i64 (c).type], .bool true]) ∧ Hid (HM w W' q g n B T D) ∧ Hid (Ext W W') := by
  refine hLcOf w W q g n B T D h x (k / 16) (k % 16) (by omega) (by omega) (by omega) c ?_
  rw [show 256 * (k / 16) + 16 * (k % 16) = 16 * k by omega, show 16 * (k / 16) + k % 16 = k by omega]
  exact hc
theorem rLc (W : World) (r gb gt gp n nb nt : Nat) (B : Nat → Int) (T D : Nat → Bool) (h : Rm W r gb gt gp n nb nt B T D) (x : Int) (k : Nat) (hk : k < 16 * n) (hx : x = 16 * (k : Int)) (c : Cap) (hc : getL (bytesAt B (16 * k) 16) (T k) = c) : Calls Try.prog 73 #[.pointer (some ⟨r, 0, none⟩), .int .i64 x] W fun e W' => e = .returned (.tuple #[.agg #[.bool (c).tag, .int .i64 (c).base, .int .i64 (c).top, .int .i64 (c).at_, .int .i64 (c).perms, .int .i64 (c).type], .bool true]) ∧ Ext W W' := by
  refine (rmlc_yes r gb gt gp n nb nt B T D W h x k hk hx).mono ?_
  rw [hc]
  exact fun e W' h => h
theorem fSize (w W : World) (q g n : Nat) (B : Nat → Int) (T D : Nat → Bool) (h : HM w W q g n B T D) (nb : Nat) (hn : nb = 256 * n) : Calls Try.prog 63 #[.pointer (some ⟨q, 0, none⟩)] W fun e W' => e = .returned (.int .i64 (nb : Int)) ∧ W = W' := by
  subst hn
  have := tsize_ q g n B T D W h.1
  rw [show ((256 * n : Nat) : Int) = 256 * (n : Int) by omega]
  exact this
theorem rmtagsN_ (r gb gt gp n nb nt : Nat) (B : Nat → Int) (T D : Nat → Bool) (W : World) (h : Rm W r gb gt gp n nb nt B T D) (tl : List Nat) (k : Nat) (hl : (whichN T nt).map (16 * ·) = tl) (hk : tl.length = k) : Calls Try.prog 34 #[.pointer (some ⟨r, 0, none⟩)] W fun e W' => ∃ A ca, e = .returned (.slice A k ca) ∧ Hid (RdN W' A tl) ∧ Hid (Ext W W') := by
  subst hl
  subst hk
  refine (rmtags_ r gb gt gp n nb nt B T D W h).mono ?_
  rintro e W' ⟨A, ca, rfl, hr, hx, _⟩
  exact ⟨A, ca, rfl, hr, hx⟩
theorem rmdirtyN_ (r gb gt gp n nb nt : Nat) (B : Nat → Int) (T D : Nat → Bool) (W : World) (h : Rm W r gb gt gp n nb nt B T D) (tl : List Nat) (k : Nat) (hl : whichN D n = tl) (hk : tl.length = k) : Calls Try.prog 36 #[.pointer (some ⟨r, 0, none⟩)] W fun e W' => ∃ A ca, e = .returned (.slice A k ca) ∧ Hid (RdN W' A tl) ∧ Hid (Ext W W') := by
  subst hl
  subst hk
  refine (rmdirty_ r gb gt gp n nb nt B T D W h).mono ?_
  rintro e W' ⟨A, ca, rfl, hr, hx, _⟩
  exact ⟨A, ca, rfl, hr, hx⟩
theorem RdB.onlyP {S : Nat → Prop} {w w' : World} {A : Option Addr} {l : List Int} (h : RdB w A l) (x : Only S w w') (hs : 0 < l.length → ∀ b o, A = some ⟨b, o, none⟩ → ¬ S b) : RdB w' A l := fun h0 => (h.only x (hs h0)) h0
theorem run_strA {P : Program} (w : World) (src dst e : TypeId) (hs : P.underlying src = some (.slice e)) (he : P.underlying e = some (.int .u8)) (hd : P.underlying dst = some .string) (A : Option Addr) (c : Nat) (ns : List Int) (n : Nat) (hn : ns.length = n)
    (h : RdB w A ns) (h0 : A = none ∧ n = 0 ∨ ∃ g, A = some ⟨g, 0, none⟩) : (convert src dst (.slice A n c)).run P w = .ok (.string (strOf ns)) w := by
  subst hn
  rcases h0 with ⟨rfl, h0⟩ | ⟨g, rfl⟩
  · exact run_str_any w src dst e hs he hd none c ns h (fun _ => rfl)
  · refine run_str w src dst e hs he hd g 0 c ns fun j hj => ?_
    obtain ⟨b, o, e1, _, hc⟩ := h (by omega)
    cases e1
    exact hc j hj
/-- Both memories, alike. -/
structure PB (w W : World) (q g r gb gt gp n nb nt : Nat) (B : Nat → Int) (T D : Nat → Bool) : Prop where
  h1 : HM w W q g n B T D
  h2 : Rm W r gb gt gp n nb nt B T D
  a1 : ¬ Tri gb gt gp q
  a2 : ¬ Tri gb gt gp g
  a3 : ¬ r = g
  a4 : w.heap.size ≤ gb ∧ w.heap.size ≤ gt ∧ w.heap.size ≤ gp
section
variable {w W W1 W2 : World} {q g r gb gt gp n nb nt : Nat} {B B' : Nat → Int} {T D T' D' : Nat → Bool}
theorem PB.ext (h : PB w W q g r gb gt gp n nb nt B T D) (x : Ext W W1) : PB w W1 q g r gb gt gp n nb nt B T D := ⟨h.h1.ext x, h.h2.ext x, h.a1, h.a2, h.a3, h.a4⟩
theorem PB.mid (h : PB w W q g r gb gt gp n nb nt B T D) (x : Only (· = g) W W1) : Rm W1 r gb gt gp n nb nt B T D :=
  h.h2.only x h.a3 (fun e => h.a2 (.inl e.symm)) (fun e => h.a2 (.inr (.inl e.symm))) (fun e => h.a2 (.inr (.inr e.symm)))
theorem PB.both (h : PB w W q g r gb gt gp n nb nt B T D) (m : HM w W1 q g n B' T' D') (k : Rm W2 r gb gt gp n nb nt B' T' D') (y : Only (Tri gb gt gp) W1 W2) : PB w W2 q g r gb gt gp n nb nt B' T' D' :=
  ⟨m.only y h.a1 h.a2 (by
    obtain ⟨k1, k2, k3⟩ := h.a4
    rintro i (rfl | rfl | rfl)
    · exact k1
    · exact k2
    · exact k3), k, h.a1, h.a2, h.a3, h.a4⟩
theorem PB.box {cb : Nat} {l : List Value} (h : PB w W q g r gb gt gp n nb nt B T D) (c : CapB W cb l) (hc : ¬ cb = g ∧ ¬ Tri gb gt gp cb) (x : Only (· = g) W W1) (y : Only (Tri gb gt gp) W1 W2) : CapB W2 cb l :=
  (c.only x hc.1).only y hc.2
end
end Go.Proofs.Ythamfkbopjagdaa
