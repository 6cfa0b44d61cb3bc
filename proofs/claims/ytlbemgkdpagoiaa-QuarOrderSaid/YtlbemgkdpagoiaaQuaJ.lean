/- Layer 13: Due. -/
import Derived.Test.YtlbemgkdpagoiaaQuaI
import Derived.Deep.RegionHeld3
namespace Go.Proofs.Ytlbemgkdpagoiaa
set_option linter.unusedSimpArgs false
set_option linter.unusedVariables false
open Go.RowKit

attribute [local go_sem] Oper.semAt_some
theorem ownsRow_lt {w : World} {base : Nat} {e : TypeId} {size n : Nat} {v : Value} {xs : List Value} (h : w.ownsRow base e size v n xs) : ∀ k, v.ownBlock = some k → k < w.heap.size ∧ base ≤ k := fun k hk => ((ownsAt_of h).lt k hk).symm
theorem RdH.below {w W : World} {A : Option Addr} {l : List Hd} (h : RdH w A l) (x : Below w.heap.size w W) : RdH W A l := fun h0 => by
  obtain ⟨b, o, e, hb, hc⟩ := h h0
  exact ⟨b, o, e, Nat.lt_of_lt_of_le hb x.size, fun j u hj => (x.cell (p := ⟨b, o + j, none⟩) hb).trans (hc j u hj)⟩
/-- What is walked over. -/
theorem dueS_ (n : Nat) (hn : 2 ≤ n) (q lb qb nb : Nat) (now : Int) (A : Option Addr) (ca m : Nat) (l : List Hd) (hm : l.length = m) (hm1 : m ≤ 1000000) (ht : ∀ h ∈ l, 0 ≤ h.time ∧ h.time ≤ 2199023255552) (w : World)
    (hqb : w.cell? ⟨qb, 0, none⟩ = some (.pointer (some ⟨q, 0, none⟩)) ∧ qb < w.heap.size ∧ qb ≠ q ∧ qb ≠ lb) (hnb : w.cell? ⟨nb, 0, none⟩ = some (.int .i64 now) ∧ nb < w.heap.size ∧ nb ≠ q ∧ nb ≠ lb)
    (hq : w.cell? ⟨q, 2, none⟩ = some (.slice A m ca)) (hq1 : q < w.heap.size) (hA : RdH w A l) (hA1 : ∀ b o, A = some ⟨b, o, none⟩ → b < w.heap.size ∧ b ≠ q ∧ b ≠ lb) :
    SeqStopsK Fence.wide n Try.prog 37 #[.pointer (some ⟨qb, 0, none⟩), .pointer (some ⟨nb, 0, none⟩)] (fun x : Hd => #[Value.agg #[.int .i64 x.at_, .int .i64 x.n, .int .i64 x.time]]) (Only (keepS q lb w.heap.size)) (fun ys => ys = l.takeWhile (dueB now)) (fun _ => True) m w := fun l0 J Jx W hW hJ _ hY h0 =>
  dueA_ n hn l0 q lb qb nb w.heap.size now A ca m l hm hm1 ht J Jx hY W hJ hW.size ⟨(hW.cell (p := ⟨qb, 0, none⟩) hqb.2.1).trans hqb.1, hqb.2⟩ ⟨(hW.cell (p := ⟨nb, 0, none⟩) hnb.2.1).trans hnb.1, hnb.2⟩ ((hW.cell (p := ⟨q, 2, none⟩) hq1).trans hq) (hA.below hW) hA1 h0
/-- How many bytes are left when some are out. -/
def bytesF (bytes : Int) (pre : List Hd) : Int := pre.foldl (fun s x => IntKind.i64.wrap (s - x.n)) bytes
theorem bytesF_snoc (bytes : Int) (pre : List Hd) (x : Hd) : bytesF bytes (pre ++ [x]) = IntKind.i64.wrap (bytesF bytes pre - x.n) := by simp [bytesF]
/-- What a round of Due finds. -/
def DueI (W0 : World) (s0 q : Nat) (full bytes : Int) (v : Value) (pre : List Hd) (W : World) : Prop :=
  (∃ vr, Boxed W (s0 + 1) 33 vr ∧ W.ownsRow (s0 + 4) 29 3 vr pre.length (hdList pre) ∧ True) ∧ Boxed W s0 24 (.pointer (some ⟨q, 0, none⟩)) ∧
  ((W.cell? ⟨q, 0, none⟩ = some (.int .i64 full) ∧ W.frozen? ⟨q, 0, none⟩ = false) ∧ (W.cell? ⟨q, 1, none⟩ = some (.int .i64 (bytesF bytes pre)) ∧ W.frozen? ⟨q, 1, none⟩ = false) ∧ (W.cell? ⟨q, 2, none⟩ = some v ∧ W.frozen? ⟨q, 2, none⟩ = false)) ∧
  Only (keepS q (s0 + 1) W0.heap.size) W0 W
theorem grown_only {S : Nat → Prop} {a w w' : World} {row : Option Nat} (h : Only S a w) (hg : w.grownBy w' row) (hr : ∀ g, row = some g → S g) : Only S a w' := h.trans' (grownOnly hg hr)
theorem DueI.own {W0 : World} {s0 q : Nat} {full bytes : Int} {v : Value} {B : Nat} (hB : W0.heap.size ≤ B) : OwnFrom B (fun pre W => DueI W0 s0 q full bytes v pre W) := by
  rintro pre W W' row ⟨h1, h2, ⟨⟨a0, a1⟩, ⟨b0, b1⟩, c0, c1⟩, h4⟩ hg hr
  have hr' : ∀ r, row = some r → ∃ o : Obj, W.heap[r]? = some o ∧ o.isCells = false := fun r e => (hr r e).2
  exact ⟨holdsRow_own (s0 + 4) (s0 + 1) 33 29 3 (fun pre : List Hd => pre.length) (fun pre => hdList pre) (fun _ _ => True) pre W W' row h1 hg hr', boxed_own (β := Unit) s0 24 (fun _ => .pointer (some ⟨q, 0, none⟩)) () W W' row h2 hg hr',
    ⟨⟨cell_kept a0 hg hr', (frozen_kept a0 hg hr').trans a1⟩, ⟨cell_kept b0 hg hr', (frozen_kept b0 hg hr').trans b1⟩, cell_kept c0 hg hr', (frozen_kept c0 hg hr').trans c1⟩,
    grown_only h4 hg fun g e => .inr (.inr (Nat.le_trans hB (hr g e).1))⟩
theorem keepK_b {q lb n₀ : Nat} {w : World} (hn : n₀ ≤ w.heap.size) (W : World) (l : Nat) (o o' : Obj) (hl : w.heap.size ≤ l) (_ : W.heap[l]? = some o) (_ : o.isCells = false) (_ : o.isWalk = false) : Only (keepS q lb n₀) W (W.putObj l o') :=
  grownOnly (grownBy_putObj' W l o') fun g e => .inr (.inr (by cases e; omega))
theorem ownsAt.mono {w : World} {base base' : Nat} {e : TypeId} {size n : Nat} {v : Value} {xs : List Value} (h : ownsAt w base e size v n xs) (hb : base' ≤ base) : ownsAt w base' e size v n xs := by
  refine ⟨h.1, ?_⟩
  rcases h.2 with h0 | ⟨g, o, cap, cur, rfl, hbg, r⟩
  · exact .inl h0
  · exact .inr ⟨g, o, cap, cur, rfl, Nat.le_trans hb hbg, r⟩
theorem own_len (A : Option Addr) (n c n2 c2 : Nat) : (Value.slice A n c).ownBlock = (Value.slice A n2 c2).ownBlock := by cases A <;> rfl
theorem due_last (w W0 W8 : World) (q base s0 Dd n k : Nat) (full b9 : Int) (v vn vr : Value) (rest tk : List Hd) (hE0 : Ext w W0) (hs0 : w.heap.size = s0) (hq : q < s0) (hbs : base ≤ q) (hZ : W0.heap.size = s0 + 4) (hO8 : Only (keepS q (s0 + 1) W0.heap.size) W0 W8)
    (y4 : W8.cell? ⟨q, 0, none⟩ = some (.int .i64 full) ∧ W8.frozen? ⟨q, 0, none⟩ = false) (y5 : W8.cell? ⟨q, 1, none⟩ = some (.int .i64 b9) ∧ W8.frozen? ⟨q, 1, none⟩ = false) (y2 : W8.cell? ⟨q, 2, none⟩ = some v) (y3 : W8.frozen? ⟨q, 2, none⟩ = false)
    (hD : W0.heap.size ≤ Dd) (hK8 : W8.heap[Dd]? = some (.deferred (some []))) (hn : rest.length = n) (hown : ownsAt W8 base 29 3 vn n (hdList rest)) (hnq : ∀ g, vn.ownBlock = some g → g < s0 ∧ g ≠ q) (hvr : W8.ownsRow (s0 + 4) 29 3 vr k (hdList tk)) :
    Qs ((W8.setCell ⟨q, 2, none⟩ vn).putObj Dd (.deferred none)) q base full b9 vn rest ∧ ownsAt ((W8.setCell ⟨q, 2, none⟩ vn).putObj Dd (.deferred none)) s0 29 3 vr k (hdList tk) ∧ Only (fun i => i = q) w ((W8.setCell ⟨q, 2, none⟩ vn).putObj Dd (.deferred none)) := by
  have h1 : Only (fun i => i = q) W8 (W8.setCell ⟨q, 2, none⟩ vn) := Only.setCell (S := fun i => i = q) (Only.refl _ _) (.inl rfl) vn
  have h2 : Only (fun i => i = Dd) (W8.setCell ⟨q, 2, none⟩ vn) ((W8.setCell ⟨q, 2, none⟩ vn).putObj Dd (.deferred none)) := grownOnly (grownBy_putObj' _ Dd _) fun g e => by cases e; rfl
  have hsz := hO8.size
  have hs8 := h1.size
  have hqd : ¬ q = Dd := by omega
  have hdl : Dd < W8.heap.size := (Array.getElem?_eq_some_iff.1 hK8).1
  have hne : ∀ g, vr.ownBlock = some g → ¬ g = Dd := fun g e hg => by
    subst hg
    rcases hvr.2 with ⟨h0, _⟩ | ⟨g', c, cur, hv, _, hcur, _⟩
    · rw [h0] at e; cases e
    · rw [hv] at e
      simp only [Value.ownBlock, Option.some.injEq] at e
      subst e
      rw [hK8] at hcur
      cases hcur
  have hl8 := fun g hg => (ownsAt_of hvr).lt g hg
  refine ⟨⟨Nat.lt_of_lt_of_le (by omega) h2.size, ⟨(h2.cells q 0 (by omega) hqd).trans (by simp [go_sem, y4.1]), (h2.cells q 1 (by omega) hqd).trans (by simp [go_sem, y5.1]), (h2.cells q 2 (by omega) hqd).trans (by simp [go_sem, y2])⟩, ⟨(h2.frozens q 0 (by omega) hqd).trans (by simp [go_sem, y4.2]), (h2.frozens q 1 (by omega) hqd).trans (by simp [go_sem, y5.2]), (h2.frozens q 2 (by omega) hqd).trans (by simp [go_sem, y3])⟩, ?_, hbs, fun g hg => (hnq g hg).2⟩, ?_, ?_⟩
  · rw [hn]
    exact (hown.only h1 fun g hg => (hnq g hg).2).only h2 fun g hg => by have := hnq g hg; omega
  · exact ownsAt.mono (((ownsAt_of hvr).only h1 fun g hg => by have := hl8 g hg; omega).only h2 hne) (by omega)
  · refine Only.trans (Only.trans (Only.trans (S := fun i => i = q) (Only.ofExt hE0) hO8 ?_) h1 (fun i h => .inl h)) h2 (fun i h => .inr (by subst h; omega))
    rintro i (h | h | h)
    · exact .inl h
    · exact .inr (by omega)
    · exact .inr (by have := hE0.size; omega)
theorem ownsAt.slice {w : World} {base : Nat} {n c : Nat} {A : Option Addr} {l : List Hd} (h : ownsAt w base 29 3 (.slice A n c) n (hdList l)) {k : Nat} (hk : k ≤ n) : ownsAt w base 29 3 (.slice (A.map fun x => x.add (k * 3)) (n - k) (c - k)) (n - k) (hdList (l.drop k)) := by
  obtain ⟨A', h1, h2, h3⟩ := h.drop rfl hk
  rw [hdList_drop] at h3
  rcases A with _ | a
  · rw [h2 rfl] at h3
    exact h3
  · obtain ⟨g, o, rfl⟩ := h.addr rfl
    rw [h1 g o rfl] at h3
    simpa [Addr.add_lit] using h3
theorem ownsAt.own_slice {w : World} {base : Nat} {n c : Nat} {A : Option Addr} {l : List Hd} (h : ownsAt w base 29 3 (.slice A n c) n (hdList l)) (k n2 c2 : Nat) : (Value.slice (A.map fun x => x.add (k * 3)) n2 c2).ownBlock = (Value.slice A n c).ownBlock := by
  rcases A with _ | a
  · rfl
  · obtain ⟨g, o, rfl⟩ := h.addr rfl
    simp [Value.ownBlock, Addr.add_lit]
theorem ownsAt.keep8 {W0 W8 : World} {base q s0 : Nat} {A : Option Addr} {m ca : Nat} {l : List Hd} (h : ownsAt W0 base 29 3 (.slice A m ca) m (hdList l)) (hO8 : Only (keepS q (s0 + 1) W0.heap.size) W0 W8) (hq : ∀ g, (Value.slice A m ca).ownBlock = some g → g < s0 ∧ g ≠ q) (hs : s0 ≤ W0.heap.size) : ownsAt W8 base 29 3 (.slice A m ca) m (hdList l) :=
  h.only hO8 fun g hg => by
    have := hq g hg
    rintro (h | h | h) <;> omega
set_option maxRecDepth 100000 in
set_option maxHeartbeats 4000000 in
theorem qdue_ (q base : Nat) (full bytes : Int) (v : Value) (l : List Hd) (w : World) (h : Qs w q base full bytes v l) (now : Int) (hl : l.length ≤ 1000000) (ht : ∀ h ∈ l, 0 ≤ h.time ∧ h.time ≤ 2199023255552) :
    Calls Try.prog 12 #[.pointer (some ⟨q, 0, none⟩), .int .i64 now] w fun e w' => ∃ vr v', e = .returned vr ∧ Qs w' q base full (bytesF bytes (l.takeWhile (dueB now))) v' (l.drop (l.takeWhile (dueB now)).length) ∧ ownsAt w' w.heap.size 29 3 vr (l.takeWhile (dueB now)).length (hdList (l.takeWhile (dueB now))) ∧ Only (fun i => i = q) w w' ∧ v'.ownBlock = v.ownBlock := by
  refine (callsIn_wide (n := 6)).1 ?_
  refine callsIn_of_wp_marks Try.func12 rfl trivial ?_ rfl
  simp only [Try.ntmps12]
  simp only [List.size_toArray, List.length_cons, List.length_nil, Nat.reduceAdd, Nat.reduceSub, Array.replicate_succ, Array.replicate_zero, List.push_toArray, List.append_toArray, List.nil_append, List.cons_append]
  obtain ⟨m, hm⟩ : ∃ m, l.length = m := ⟨_, rfl⟩
  obtain ⟨A, ca, rfl, hca, hcn⟩ := h.2.2.2.1.shape
  have HQ := hid h
  have HM := hid hm
  have HT := hid ht
  rw [hm] at hl hca
  clear h hm ht
  gi_wp2_with ((try refine ⟨trivial, ?_⟩); gi_at_call 29; refine CallsIn.mono (callsIn_wide.2 (due_ _ _ _)) ?_; rintro e w1 ⟨rfl, rfl⟩)
  refine wpIn_gen (fun W => Hid (Ext w W) ∧ Hid (W.heap.size = w.heap.size + 4) ∧ Hid (Boxed W w.heap.size 24 (.pointer (some ⟨q, 0, none⟩))) ∧ Hid (Boxed W (w.heap.size + 1) 33 (.slice none 0 0)) ∧ Hid (W.cell? ⟨w.heap.size + 2, 0, none⟩ = some (.pointer (some ⟨q, 0, none⟩))) ∧ Hid (W.cell? ⟨w.heap.size + 3, 0, none⟩ = some (.int .i64 now)))
    ⟨hid (by repeat (first | (with_reducible exact Ext.refl _) | (with_reducible refine Ext.undrew ?_) | (with_reducible refine Ext.grow ?_ _) | (with_reducible refine Ext.drew ?_) | (with_reducible refine Ext.drewN ?_ _) | (with_reducible refine Ext.alloc ?_ _) | (with_reducible assumption) | ((with_reducible refine Ext.setCell ?_ ?_ _); rotate_left; (first | exact Nat.le_refl _ | ((try dsimp only); (try simp only [World.size_alloc, grow_size, World.size_setCell]); omega))))), hid (by simp), hid ?p1, hid ?p2, hid (by simp [go_sem]), hid (by simp [go_sem])⟩ ?_
  case p1 => exact (((Boxed.new w 24 (.pointer (some ⟨q, 0, none⟩))).alloc _).alloc _).alloc _
  case p2 =>
    have := ((Boxed.new (w.alloc (.cells #[.pointer (some ⟨q, 0, none⟩)] 24)) 33 (.slice none 0 0)).alloc (.cells #[.pointer (some ⟨q, 0, none⟩)] 24)).alloc (.cells #[.int .i64 now] 2)
    simpa using this
  rintro W0 ⟨hE0, hZ0, hB0, hL0, hc2, hc3⟩
  obtain ⟨s0, hs0⟩ : ∃ s, w.heap.size = s := ⟨_, rfl⟩
  rw [hs0] at hZ0 hB0 hL0 hc2 hc3 ⊢
  have hZ := hZ0.out
  have HQ0 := hid (HQ.out.ext hE0.out)
  have hq0 : q < s0 := by have := HQ.out.1; omega
  have hbs : base ≤ q := HQ.out.2.2.2.2.1
  have hone : ∀ b o, A = some ⟨b, o, none⟩ → b < s0 ∧ b ≠ q := fun b o e => by
    have h1 := HQ.out.2.2.2.1.lt b (by rw [e]; rfl)
    exact ⟨by omega, HQ.out.2.2.2.2.2 b (by rw [e]; rfl)⟩
  have hrd : RdH W0 A l := (ownsAt.rdH (n := m) (by have := HQ0.out.2.2.2.1; rw [HM.out] at this; exact this) HM.out)
  refine wpIn_rangeFunc_ownH rfl (by omega) (gf := 37) (lb := #[.pointer (some ⟨s0 + 1 + 1, 0, none⟩), .pointer (some ⟨s0 + 1 + 1 + 1, 0, none⟩)]) rfl trivial (enters_of Try.func37 (by kernel_rfl) rfl)
    (dueS_ 5 (by omega) q (s0 + 1) (s0 + 1 + 1) (s0 + 1 + 1 + 1) now A ca m l HM.out hl HT.out W0 ⟨hc2.out, by omega, by omega, by omega⟩ ⟨hc3.out, by omega, by omega, by omega⟩ (by have := HQ0.out.2.1.2.2; rw [HM.out] at this; exact this) (by omega) hrd (fun b o e => by have := hone b o e; omega))
    (fun h k => h.trans' k) (keepK_b (Nat.le_refl _)) (Below.refl _ _) (fun _ => rfl)
    (fun pre W => DueI W0 s0 q full bytes (.slice A m ca) pre W) (fun _ _ _ => False) (DueI.own (Nat.le_refl _)) (fun _ _ _ _ _ hs _ _ => hs)
    ⟨⟨_, hL0.out, World.ownsRow_nil _ _ _ _, trivial⟩, hB0.out, ⟨⟨HQ0.out.2.1.1, HQ0.out.2.2.1.1⟩, ⟨HQ0.out.2.1.2.1, HQ0.out.2.2.1.2.1⟩, by have := HQ0.out.2.1.2.2; rw [HM.out] at this; exact this, HQ0.out.2.2.1.2.2⟩, Only.refl _ _⟩
    (fun x a' W => ∃ Bx, s0 + 4 ≤ Bx ∧ (∃ vr, Boxed W (s0 + 1) 33 vr ∧ ¬ vr.ownBlock = some Bx) ∧ W.heap[Bx]? = some (.cells #[.int .i64 x.at_, .int .i64 x.n, .int .i64 x.time] 29 (0, 0)) ∧ a' = { tmps := #[.pointer (some ⟨q, 0, none⟩), .int .i64 now, .pointer (some ⟨s0, 0, none⟩), undef, .slice none 0 0, .pointer (some ⟨s0 + 1, 0, none⟩), .pointer (some ⟨Bx, 0, none⟩), .pointer (some ⟨q, 0, none⟩), .int .i64 now, .func (.func 37) #[] #[.pointer (some ⟨s0 + 1 + 1, 0, none⟩), .pointer (some ⟨s0 + 1 + 1 + 1, 0, none⟩)], .agg #[.int .i64 x.at_, .int .i64 x.n, .int .i64 x.time], undef, undef, undef, undef, undef, undef, undef, undef, undef, undef, undef, undef, undef, undef, undef, undef, undef, undef, undef, undef, undef, undef, undef, undef], defers := [] })
    ?ax ?assign ?body ?done ?stop
  case ax =>
    rintro x a' ⟨⟩ W W' row ⟨Bx, h1, ⟨vr, h4, h5⟩, h2, h3⟩ hg hr
    refine ⟨Bx, h1, ⟨vr, boxed_own (β := Unit) (s0 + 1) 33 (fun _ => vr) () W W' row h4 hg fun r e => (hr r e).2, h5⟩, (hg.block Bx (Array.getElem?_eq_some_iff.1 h2).1 fun e => ?_).trans h2, h3⟩
    obtain ⟨_, o, ho, hc⟩ := hr Bx e.symm
    rw [h2] at ho
    cases ho
    cases hc
  case assign =>
    rintro l0 pre x W K hI hK
    gi_wp2
    have hsz := hI.2.2.2.size
    exact hK _ _ ((KeepsOthers.alloc _ _).from _) (Only.alloc (Only.refl _ _) _) ((DueI.own (B := W0.heap.size) (Nat.le_refl _)).alloc _ hI) ⟨W.heap.size, by omega, ⟨_, hI.1.choose_spec.1.alloc _, fun e => by have := ownsRow_lt hI.1.choose_spec.2.1 _ e; omega⟩, heap_alloc_new _ _, rfl⟩
  case body =>
    rintro l0 pre x a' W hl0 _ hI ⟨Bx, hBx, ⟨vr2, hvb2, hne⟩, hbx, rfl⟩ hlen
    obtain ⟨⟨vr, hvb, hvr, _⟩, hb2, ⟨⟨a0, a1⟩, ⟨a2, a3⟩, a4, a5⟩, hO⟩ := hI
    obtain rfl : vr2 = vr := by have := (show W.heap[s0 + 1]? = _ from hvb2).symm.trans hvb; simpa using this
    clear hvb2
    obtain ⟨i0, z0, hi0, hz0, hz1, hz2, hz3⟩ := held_info
    have hv1 := hvb.cell
    have hv2 := hvb.frozen
    have hsz := hO.size
    have x0 : W.cell? ⟨Bx, 0, none⟩ = some (.int .i64 x.at_) := by simp [World.cell?, hbx]
    have x1 : W.cell? ⟨Bx, 1, none⟩ = some (.int .i64 x.n) := by simp [World.cell?, hbx]
    have x2 : W.cell? ⟨Bx, 2, none⟩ = some (.int .i64 x.time) := by simp [World.cell?, hbx]
    have HVR := hid hvr
    have HVB := hid hvb
    clear hvr hvb
    gi_wp2_with (gi_at_builtin; refine wpListIn_append_own _ rfl _ _ 33 rfl (s0 + 4) 29 i0 z0 3 24 Try.underlying33 hi0 hz0 hz2 hz3 hz1 (by decide) vr2 pre.length (hdList pre) rfl (HVR.out.alloc _) ⟨W.heap.size, 0, none⟩ 1 1 [.int .i64 x.at_, .int .i64 x.n, .int .i64 x.time] rfl rfl (fun j u hj => by rw [Addr.add_lit]; exact (Row.new W _ _).range j u hj) (hd_one x) (by unfold maxLen; omega) (by omega) (by simp; omega) ?_; intro v' w1 hown' hgrow _; obtain ⟨g', cap', rfl⟩ := ownsRow_succ hown'; obtain ⟨hv1', hv2', _, hk2, _⟩ := HVB.out.appended (n₀ := s0 + 1) (by decide) (HVR.out.mono (by omega)) (by omega) (by omega) (hown'.mono (by omega)) hgrow; have hc1 := hv1'.cell; have hf1 := hv1'.frozen)
    refine wpIn_region_any (by kernel_rfl) ?_
    change wpAnyIn _ _ _ _ _ _ _ _ _ (World.drew _)
    have hlt : ∀ g, vr2.ownBlock = some g → s0 + 4 ≤ g ∧ g < W.heap.size := fun g e => (ownsRow_lt HVR.out g e).symm
    have hT : Only (tch (s0 + 1) vr2) W (w1.setCell ⟨s0 + 1, 0, none⟩ (.slice (some ⟨g', 0, none⟩) (pre.length + 1) cap')) := Only.setCell (S := tch (s0 + 1) vr2) (grown_only (Only.alloc (Only.refl _ _) _) hgrow fun g e => .inr e) (.inl (.inl rfl)) _
    have n0 : ¬ tch (s0 + 1) vr2 s0 := by rintro (e | e) <;> first | omega | (have := hlt _ e; omega)
    have nq : ¬ tch (s0 + 1) vr2 q := by rintro (e | e) <;> first | omega | (have := hlt _ e; omega)
    have nb : ¬ tch (s0 + 1) vr2 Bx := by rintro (e | e) <;> first | omega | exact hne e
    have hBl : Bx < W.heap.size := (Array.getElem?_eq_some_iff.1 hbx).1
    refine wpAnyIn_gen (fun W6 => Hid (KeepsFrom W0.heap.size W W6) ∧ Hid (Only (keepS q (s0 + 1) W0.heap.size) W W6) ∧ Hid (Boxed W6 (s0 + 1) 33 (.slice (some ⟨g', 0, none⟩) (pre.length + 1) cap')) ∧ Hid (W6.ownsRow (s0 + 4) 29 3 (.slice (some ⟨g', 0, none⟩) (pre.length + 1) cap') (pre ++ [x]).length (hdList (pre ++ [x]))) ∧ Hid (Boxed W6 s0 24 (.pointer (some ⟨q, 0, none⟩))) ∧
      Hid (((W6.cell? ⟨q, 0, none⟩ = some (.int .i64 full) ∧ W6.frozen? ⟨q, 0, none⟩ = false) ∧ (W6.cell? ⟨q, 1, none⟩ = some (.int .i64 (bytesF bytes pre)) ∧ W6.frozen? ⟨q, 1, none⟩ = false) ∧ (W6.cell? ⟨q, 2, none⟩ = some (.slice A m ca) ∧ W6.frozen? ⟨q, 2, none⟩ = false))) ∧ Hid (W6.cell? ⟨Bx, 1, none⟩ = some (.int .i64 x.n)))
      ⟨hid ⟨hk2.size, fun k o _ => hk2.same k o⟩, hid (Only.drew (Only.setCell (S := keepS q (s0 + 1) W0.heap.size) (grown_only (Only.alloc (Only.refl _ _) _) hgrow fun g e => .inr (.inr (by have := hlt g e; omega))) (.inl (.inr (.inl rfl))) _)), hid hv2', hid ?r, hid ((hT.block s0 (by omega) n0).trans hb2), hid ⟨⟨(hT.cells q 0 (by omega) nq).trans a0, (hT.frozens q 0 (by omega) nq).trans a1⟩, ⟨(hT.cells q 1 (by omega) nq).trans a2, (hT.frozens q 1 (by omega) nq).trans a3⟩, (hT.cells q 2 (by omega) nq).trans a4, (hT.frozens q 2 (by omega) nq).trans a5⟩, hid ((hT.cells Bx 1 hBl nb).trans x1)⟩ ?_
    case r =>
      rw [List.length_append, hdList_append, hdList_one]
      exact (hown'.kept (grownBy_setCell' w1 (s0 + 1) _) (.inr (hv1'.not_row (by decide) hown').symm)).drew
    clear hT n0 nq nb hk2 hv1' hv2' hc1 hf1 hgrow hown' hne hbx x0 x1 x2 hb2 a0 a1 a2 a3 a4 a5 HVR HVB hv1 hv2
    rintro W6 ⟨g1, g2, g3, g4, g5, g6, g7⟩
    have y0 := g5.out.cell
    have y1 := g6.out.2.1.1
    have y2 := g6.out.2.1.2
    have y3 := g7.out
    have hfin : KeepsFrom W0.heap.size W (W6.setCell ⟨q, 1, none⟩ (.int .i64 (IntKind.i64.wrap (bytesF bytes pre - x.n)))) ∧ Only (keepS q (s0 + 1) W0.heap.size) W (W6.setCell ⟨q, 1, none⟩ (.int .i64 (IntKind.i64.wrap (bytesF bytes pre - x.n)))) ∧ DueI W0 s0 q full bytes (.slice A m ca) (pre ++ [x]) (W6.setCell ⟨q, 1, none⟩ (.int .i64 (IntKind.i64.wrap (bytesF bytes pre - x.n)))) := by
      have hs : ∀ u, Only (fun i => i = q) W6 (W6.setCell ⟨q, 1, none⟩ u) := fun u => Only.setCell (S := fun i => i = q) (Only.refl _ _) (.inl rfl) u
      have hgg : s0 + 4 ≤ g' := (ownsRow_lt g4.out g' rfl).2
      have h60 := g6.out.1
      have h62 := g6.out.2.2
      refine ⟨g1.out.trans ((KeepsOthers.setCell _ _ _).from _), g2.out.trans' (Only.setCell (S := keepS q (s0 + 1) W0.heap.size) (Only.refl _ _) (.inl (.inl rfl)) _), ⟨_, ((hs _).block (s0 + 1) g3.out.lt (by omega)).trans g3.out, g4.out.kept (row := some q) ⟨(hs _).os, (hs _).tape, (hs _).output, (hs _).size, fun k hk hn => (hs _).block k hk fun e => hn (by rw [e])⟩ (.inr (by simp [Value.ownBlock]; omega)), trivial⟩, ((hs _).block s0 g5.out.lt (by omega)).trans g5.out, ⟨⟨by simp [go_sem, h60.1], by simp [go_sem, h60.2]⟩, ⟨by rw [bytesF_snoc]; simp [go_sem, y1], by simp [go_sem, y2]⟩, by simp [go_sem, h62.1], by simp [go_sem, h62.2]⟩, ?_⟩
      exact (hO.trans' g2.out).trans' (Only.setCell (S := keepS q (s0 + 1) W0.heap.size) (Only.refl _ _) (.inl (.inl rfl)) _)
    refine wpAnyIn_ready (rs := [0, 4]) (by kernel_rfl) (by simp) ?_
    refine AllReadyIn.cons rfl (fun K hK => ?_) ?_
    · go_simp
      refine hK _ _ ?_
      clear hK K
      refine wpAnyIn_ready (rs := [1, 4]) (by kernel_rfl) (by simp) ?_
      refine AllReadyIn.cons rfl (fun K hK => ?_) ?_
      · go_simp
        refine hK _ _ ?_
        clear hK K
        refine wpAnyIn_ready (rs := [2, 4]) (by kernel_rfl) (by simp) ?_
        refine AllReadyIn.cons rfl (fun K hK => ?_) ?_
        · go_simp
          refine hK _ _ ?_
          clear hK K
          refine wpAnyIn_ready (rs := [3, 4]) (by kernel_rfl) (by simp) ?_
          refine AllReadyIn.cons rfl (fun K hK => ?_) ?_
          · go_simp
            refine hK _ _ ?_
            clear hK K
            refine wpAnyIn_ready (rs := [4]) (by kernel_rfl) (by simp) ?_
            refine AllReadyIn.cons rfl (fun K hK => ?_) ?_
            · go_simp
              refine hK _ _ ?_
              clear hK K
              refine wpAnyIn_ready (rs := [5]) (by kernel_rfl) (by simp) ?_
              refine AllReadyIn.cons rfl (fun K hK => ?_) ?_
              · go_simp
                refine hK _ _ ?_
                clear hK K
                refine wpAnyIn_ready (rs := [6]) (by kernel_rfl) (by simp) ?_
                refine AllReadyIn.cons rfl (fun K hK => ?_) ?_
                · go_simp
                  refine hK _ _ ?_
                  clear hK K
                  refine wpAnyIn_ready (rs := [7]) (by kernel_rfl) (by simp) ?_
                  refine AllReadyIn.cons rfl (fun K hK => ?_) ?_
                  · go_simp
                    refine hK _ _ ?_
                    clear hK K
                    refine wpAnyIn_ready (rs := [8]) (by kernel_rfl) (by simp) ?_
                    refine AllReadyIn.cons rfl (fun K hK => ?_) ?_
                    · go_simp
                      refine hK _ _ ?_
                      clear hK K
                      refine wpAnyIn_ready (rs := [9]) (by kernel_rfl) (by simp) ?_
                      refine AllReadyIn.cons rfl (fun K hK => ?_) ?_
                      · go_simp
                        refine hK _ _ ?_
                        clear hK K
                        refine wpAnyIn_done (by kernel_rfl) ?_ _
                        gi_wp2
                        exact hfin
                      exact AllReadyIn.nil
                    exact AllReadyIn.nil
                  exact AllReadyIn.nil
                exact AllReadyIn.nil
              exact AllReadyIn.nil
            exact AllReadyIn.nil
          refine AllReadyIn.cons rfl (fun K hK => ?_) ?_
          · go_simp
            refine hK _ _ ?_
            clear hK K
            refine wpAnyIn_ready (rs := [3, 5]) (by kernel_rfl) (by simp) ?_
            refine AllReadyIn.cons rfl (fun K hK => ?_) ?_
            · go_simp
              refine hK _ _ ?_
              clear hK K
              refine wpAnyIn_ready (rs := [5]) (by kernel_rfl) (by simp) ?_
              refine AllReadyIn.cons rfl (fun K hK => ?_) ?_
              · go_simp
                refine hK _ _ ?_
                clear hK K
                refine wpAnyIn_ready (rs := [6]) (by kernel_rfl) (by simp) ?_
                refine AllReadyIn.cons rfl (fun K hK => ?_) ?_
                · go_simp
                  refine hK _ _ ?_
                  clear hK K
                  refine wpAnyIn_ready (rs := [7]) (by kernel_rfl) (by simp) ?_
                  refine AllReadyIn.cons rfl (fun K hK => ?_) ?_
                  · go_simp
                    refine hK _ _ ?_
                    clear hK K
                    refine wpAnyIn_ready (rs := [8]) (by kernel_rfl) (by simp) ?_
                    refine AllReadyIn.cons rfl (fun K hK => ?_) ?_
                    · go_simp
                      refine hK _ _ ?_
                      clear hK K
                      refine wpAnyIn_ready (rs := [9]) (by kernel_rfl) (by simp) ?_
                      refine AllReadyIn.cons rfl (fun K hK => ?_) ?_
                      · go_simp
                        refine hK _ _ ?_
                        clear hK K
                        refine wpAnyIn_done (by kernel_rfl) ?_ _
                        gi_wp2
                        exact hfin
                      exact AllReadyIn.nil
                    exact AllReadyIn.nil
                  exact AllReadyIn.nil
                exact AllReadyIn.nil
              exact AllReadyIn.nil
            refine AllReadyIn.cons rfl (fun K hK => ?_) ?_
            · go_simp
              refine hK _ _ ?_
              clear hK K
              refine wpAnyIn_ready (rs := [3]) (by kernel_rfl) (by simp) ?_
              refine AllReadyIn.cons rfl (fun K hK => ?_) ?_
              · go_simp
                refine hK _ _ ?_
                clear hK K
                refine wpAnyIn_ready (rs := [6]) (by kernel_rfl) (by simp) ?_
                refine AllReadyIn.cons rfl (fun K hK => ?_) ?_
                · go_simp
                  refine hK _ _ ?_
                  clear hK K
                  refine wpAnyIn_ready (rs := [7]) (by kernel_rfl) (by simp) ?_
                  refine AllReadyIn.cons rfl (fun K hK => ?_) ?_
                  · go_simp
                    refine hK _ _ ?_
                    clear hK K
                    refine wpAnyIn_ready (rs := [8]) (by kernel_rfl) (by simp) ?_
                    refine AllReadyIn.cons rfl (fun K hK => ?_) ?_
                    · go_simp
                      refine hK _ _ ?_
                      clear hK K
                      refine wpAnyIn_ready (rs := [9]) (by kernel_rfl) (by simp) ?_
                      refine AllReadyIn.cons rfl (fun K hK => ?_) ?_
                      · go_simp
                        refine hK _ _ ?_
                        clear hK K
                        refine wpAnyIn_done (by kernel_rfl) ?_ _
                        gi_wp2
                        exact hfin
                      exact AllReadyIn.nil
                    exact AllReadyIn.nil
                  exact AllReadyIn.nil
                exact AllReadyIn.nil
              exact AllReadyIn.nil
            exact AllReadyIn.nil
          exact AllReadyIn.nil
        refine AllReadyIn.cons rfl (fun K hK => ?_) ?_
        · go_simp
          refine hK _ _ ?_
          clear hK K
          refine wpAnyIn_ready (rs := [2, 5]) (by kernel_rfl) (by simp) ?_
          refine AllReadyIn.cons rfl (fun K hK => ?_) ?_
          · go_simp
            refine hK _ _ ?_
            clear hK K
            refine wpAnyIn_ready (rs := [3, 5]) (by kernel_rfl) (by simp) ?_
            refine AllReadyIn.cons rfl (fun K hK => ?_) ?_
            · go_simp
              refine hK _ _ ?_
              clear hK K
              refine wpAnyIn_ready (rs := [5]) (by kernel_rfl) (by simp) ?_
              refine AllReadyIn.cons rfl (fun K hK => ?_) ?_
              · go_simp
                refine hK _ _ ?_
                clear hK K
                refine wpAnyIn_ready (rs := [6]) (by kernel_rfl) (by simp) ?_
                refine AllReadyIn.cons rfl (fun K hK => ?_) ?_
                · go_simp
                  refine hK _ _ ?_
                  clear hK K
                  refine wpAnyIn_ready (rs := [7]) (by kernel_rfl) (by simp) ?_
                  refine AllReadyIn.cons rfl (fun K hK => ?_) ?_
                  · go_simp
                    refine hK _ _ ?_
                    clear hK K
                    refine wpAnyIn_ready (rs := [8]) (by kernel_rfl) (by simp) ?_
                    refine AllReadyIn.cons rfl (fun K hK => ?_) ?_
                    · go_simp
                      refine hK _ _ ?_
                      clear hK K
                      refine wpAnyIn_ready (rs := [9]) (by kernel_rfl) (by simp) ?_
                      refine AllReadyIn.cons rfl (fun K hK => ?_) ?_
                      · go_simp
                        refine hK _ _ ?_
                        clear hK K
                        refine wpAnyIn_done (by kernel_rfl) ?_ _
                        gi_wp2
                        exact hfin
                      exact AllReadyIn.nil
                    exact AllReadyIn.nil
                  exact AllReadyIn.nil
                exact AllReadyIn.nil
              exact AllReadyIn.nil
            refine AllReadyIn.cons rfl (fun K hK => ?_) ?_
            · go_simp
              refine hK _ _ ?_
              clear hK K
              refine wpAnyIn_ready (rs := [3]) (by kernel_rfl) (by simp) ?_
              refine AllReadyIn.cons rfl (fun K hK => ?_) ?_
              · go_simp
                refine hK _ _ ?_
                clear hK K
                refine wpAnyIn_ready (rs := [6]) (by kernel_rfl) (by simp) ?_
                refine AllReadyIn.cons rfl (fun K hK => ?_) ?_
                · go_simp
                  refine hK _ _ ?_
                  clear hK K
                  refine wpAnyIn_ready (rs := [7]) (by kernel_rfl) (by simp) ?_
                  refine AllReadyIn.cons rfl (fun K hK => ?_) ?_
                  · go_simp
                    refine hK _ _ ?_
                    clear hK K
                    refine wpAnyIn_ready (rs := [8]) (by kernel_rfl) (by simp) ?_
                    refine AllReadyIn.cons rfl (fun K hK => ?_) ?_
                    · go_simp
                      refine hK _ _ ?_
                      clear hK K
                      refine wpAnyIn_ready (rs := [9]) (by kernel_rfl) (by simp) ?_
                      refine AllReadyIn.cons rfl (fun K hK => ?_) ?_
                      · go_simp
                        refine hK _ _ ?_
                        clear hK K
                        refine wpAnyIn_done (by kernel_rfl) ?_ _
                        gi_wp2
                        exact hfin
                      exact AllReadyIn.nil
                    exact AllReadyIn.nil
                  exact AllReadyIn.nil
                exact AllReadyIn.nil
              exact AllReadyIn.nil
            exact AllReadyIn.nil
          refine AllReadyIn.cons rfl (fun K hK => ?_) ?_
          · go_simp
            refine hK _ _ ?_
            clear hK K
            refine wpAnyIn_ready (rs := [2]) (by kernel_rfl) (by simp) ?_
            refine AllReadyIn.cons rfl (fun K hK => ?_) ?_
            · go_simp
              refine hK _ _ ?_
              clear hK K
              refine wpAnyIn_ready (rs := [3]) (by kernel_rfl) (by simp) ?_
              refine AllReadyIn.cons rfl (fun K hK => ?_) ?_
              · go_simp
                refine hK _ _ ?_
                clear hK K
                refine wpAnyIn_ready (rs := [6]) (by kernel_rfl) (by simp) ?_
                refine AllReadyIn.cons rfl (fun K hK => ?_) ?_
                · go_simp
                  refine hK _ _ ?_
                  clear hK K
                  refine wpAnyIn_ready (rs := [7]) (by kernel_rfl) (by simp) ?_
                  refine AllReadyIn.cons rfl (fun K hK => ?_) ?_
                  · go_simp
                    refine hK _ _ ?_
                    clear hK K
                    refine wpAnyIn_ready (rs := [8]) (by kernel_rfl) (by simp) ?_
                    refine AllReadyIn.cons rfl (fun K hK => ?_) ?_
                    · go_simp
                      refine hK _ _ ?_
                      clear hK K
                      refine wpAnyIn_ready (rs := [9]) (by kernel_rfl) (by simp) ?_
                      refine AllReadyIn.cons rfl (fun K hK => ?_) ?_
                      · go_simp
                        refine hK _ _ ?_
                        clear hK K
                        refine wpAnyIn_done (by kernel_rfl) ?_ _
                        gi_wp2
                        exact hfin
                      exact AllReadyIn.nil
                    exact AllReadyIn.nil
                  exact AllReadyIn.nil
                exact AllReadyIn.nil
              exact AllReadyIn.nil
            exact AllReadyIn.nil
          exact AllReadyIn.nil
        exact AllReadyIn.nil
      refine AllReadyIn.cons rfl (fun K hK => ?_) ?_
      · go_simp
        refine hK _ _ ?_
        clear hK K
        refine wpAnyIn_ready (rs := [1, 5]) (by kernel_rfl) (by simp) ?_
        refine AllReadyIn.cons rfl (fun K hK => ?_) ?_
        · go_simp
          refine hK _ _ ?_
          clear hK K
          refine wpAnyIn_ready (rs := [2, 5]) (by kernel_rfl) (by simp) ?_
          refine AllReadyIn.cons rfl (fun K hK => ?_) ?_
          · go_simp
            refine hK _ _ ?_
            clear hK K
            refine wpAnyIn_ready (rs := [3, 5]) (by kernel_rfl) (by simp) ?_
            refine AllReadyIn.cons rfl (fun K hK => ?_) ?_
            · go_simp
              refine hK _ _ ?_
              clear hK K
              refine wpAnyIn_ready (rs := [5]) (by kernel_rfl) (by simp) ?_
              refine AllReadyIn.cons rfl (fun K hK => ?_) ?_
              · go_simp
                refine hK _ _ ?_
                clear hK K
                refine wpAnyIn_ready (rs := [6]) (by kernel_rfl) (by simp) ?_
                refine AllReadyIn.cons rfl (fun K hK => ?_) ?_
                · go_simp
                  refine hK _ _ ?_
                  clear hK K
                  refine wpAnyIn_ready (rs := [7]) (by kernel_rfl) (by simp) ?_
                  refine AllReadyIn.cons rfl (fun K hK => ?_) ?_
                  · go_simp
                    refine hK _ _ ?_
                    clear hK K
                    refine wpAnyIn_ready (rs := [8]) (by kernel_rfl) (by simp) ?_
                    refine AllReadyIn.cons rfl (fun K hK => ?_) ?_
                    · go_simp
                      refine hK _ _ ?_
                      clear hK K
                      refine wpAnyIn_ready (rs := [9]) (by kernel_rfl) (by simp) ?_
                      refine AllReadyIn.cons rfl (fun K hK => ?_) ?_
                      · go_simp
                        refine hK _ _ ?_
                        clear hK K
                        refine wpAnyIn_done (by kernel_rfl) ?_ _
                        gi_wp2
                        exact hfin
                      exact AllReadyIn.nil
                    exact AllReadyIn.nil
                  exact AllReadyIn.nil
                exact AllReadyIn.nil
              exact AllReadyIn.nil
            refine AllReadyIn.cons rfl (fun K hK => ?_) ?_
            · go_simp
              refine hK _ _ ?_
              clear hK K
              refine wpAnyIn_ready (rs := [3]) (by kernel_rfl) (by simp) ?_
              refine AllReadyIn.cons rfl (fun K hK => ?_) ?_
              · go_simp
                refine hK _ _ ?_
                clear hK K
                refine wpAnyIn_ready (rs := [6]) (by kernel_rfl) (by simp) ?_
                refine AllReadyIn.cons rfl (fun K hK => ?_) ?_
                · go_simp
                  refine hK _ _ ?_
                  clear hK K
                  refine wpAnyIn_ready (rs := [7]) (by kernel_rfl) (by simp) ?_
                  refine AllReadyIn.cons rfl (fun K hK => ?_) ?_
                  · go_simp
                    refine hK _ _ ?_
                    clear hK K
                    refine wpAnyIn_ready (rs := [8]) (by kernel_rfl) (by simp) ?_
                    refine AllReadyIn.cons rfl (fun K hK => ?_) ?_
                    · go_simp
                      refine hK _ _ ?_
                      clear hK K
                      refine wpAnyIn_ready (rs := [9]) (by kernel_rfl) (by simp) ?_
                      refine AllReadyIn.cons rfl (fun K hK => ?_) ?_
                      · go_simp
                        refine hK _ _ ?_
                        clear hK K
                        refine wpAnyIn_done (by kernel_rfl) ?_ _
                        gi_wp2
                        exact hfin
                      exact AllReadyIn.nil
                    exact AllReadyIn.nil
                  exact AllReadyIn.nil
                exact AllReadyIn.nil
              exact AllReadyIn.nil
            exact AllReadyIn.nil
          refine AllReadyIn.cons rfl (fun K hK => ?_) ?_
          · go_simp
            refine hK _ _ ?_
            clear hK K
            refine wpAnyIn_ready (rs := [2]) (by kernel_rfl) (by simp) ?_
            refine AllReadyIn.cons rfl (fun K hK => ?_) ?_
            · go_simp
              refine hK _ _ ?_
              clear hK K
              refine wpAnyIn_ready (rs := [3]) (by kernel_rfl) (by simp) ?_
              refine AllReadyIn.cons rfl (fun K hK => ?_) ?_
              · go_simp
                refine hK _ _ ?_
                clear hK K
                refine wpAnyIn_ready (rs := [6]) (by kernel_rfl) (by simp) ?_
                refine AllReadyIn.cons rfl (fun K hK => ?_) ?_
                · go_simp
                  refine hK _ _ ?_
                  clear hK K
                  refine wpAnyIn_ready (rs := [7]) (by kernel_rfl) (by simp) ?_
                  refine AllReadyIn.cons rfl (fun K hK => ?_) ?_
                  · go_simp
                    refine hK _ _ ?_
                    clear hK K
                    refine wpAnyIn_ready (rs := [8]) (by kernel_rfl) (by simp) ?_
                    refine AllReadyIn.cons rfl (fun K hK => ?_) ?_
                    · go_simp
                      refine hK _ _ ?_
                      clear hK K
                      refine wpAnyIn_ready (rs := [9]) (by kernel_rfl) (by simp) ?_
                      refine AllReadyIn.cons rfl (fun K hK => ?_) ?_
                      · go_simp
                        refine hK _ _ ?_
                        clear hK K
                        refine wpAnyIn_done (by kernel_rfl) ?_ _
                        gi_wp2
                        exact hfin
                      exact AllReadyIn.nil
                    exact AllReadyIn.nil
                  exact AllReadyIn.nil
                exact AllReadyIn.nil
              exact AllReadyIn.nil
            exact AllReadyIn.nil
          exact AllReadyIn.nil
        refine AllReadyIn.cons rfl (fun K hK => ?_) ?_
        · go_simp
          refine hK _ _ ?_
          clear hK K
          refine wpAnyIn_ready (rs := [1]) (by kernel_rfl) (by simp) ?_
          refine AllReadyIn.cons rfl (fun K hK => ?_) ?_
          · go_simp
            refine hK _ _ ?_
            clear hK K
            refine wpAnyIn_ready (rs := [2]) (by kernel_rfl) (by simp) ?_
            refine AllReadyIn.cons rfl (fun K hK => ?_) ?_
            · go_simp
              refine hK _ _ ?_
              clear hK K
              refine wpAnyIn_ready (rs := [3]) (by kernel_rfl) (by simp) ?_
              refine AllReadyIn.cons rfl (fun K hK => ?_) ?_
              · go_simp
                refine hK _ _ ?_
                clear hK K
                refine wpAnyIn_ready (rs := [6]) (by kernel_rfl) (by simp) ?_
                refine AllReadyIn.cons rfl (fun K hK => ?_) ?_
                · go_simp
                  refine hK _ _ ?_
                  clear hK K
                  refine wpAnyIn_ready (rs := [7]) (by kernel_rfl) (by simp) ?_
                  refine AllReadyIn.cons rfl (fun K hK => ?_) ?_
                  · go_simp
                    refine hK _ _ ?_
                    clear hK K
                    refine wpAnyIn_ready (rs := [8]) (by kernel_rfl) (by simp) ?_
                    refine AllReadyIn.cons rfl (fun K hK => ?_) ?_
                    · go_simp
                      refine hK _ _ ?_
                      clear hK K
                      refine wpAnyIn_ready (rs := [9]) (by kernel_rfl) (by simp) ?_
                      refine AllReadyIn.cons rfl (fun K hK => ?_) ?_
                      · go_simp
                        refine hK _ _ ?_
                        clear hK K
                        refine wpAnyIn_done (by kernel_rfl) ?_ _
                        gi_wp2
                        exact hfin
                      exact AllReadyIn.nil
                    exact AllReadyIn.nil
                  exact AllReadyIn.nil
                exact AllReadyIn.nil
              exact AllReadyIn.nil
            exact AllReadyIn.nil
          exact AllReadyIn.nil
        exact AllReadyIn.nil
      exact AllReadyIn.nil
    refine AllReadyIn.cons rfl (fun K hK => ?_) ?_
    · go_simp
      refine hK _ _ ?_
      clear hK K
      refine wpAnyIn_ready (rs := [0, 5]) (by kernel_rfl) (by simp) ?_
      refine AllReadyIn.cons rfl (fun K hK => ?_) ?_
      · go_simp
        refine hK _ _ ?_
        clear hK K
        refine wpAnyIn_ready (rs := [1, 5]) (by kernel_rfl) (by simp) ?_
        refine AllReadyIn.cons rfl (fun K hK => ?_) ?_
        · go_simp
          refine hK _ _ ?_
          clear hK K
          refine wpAnyIn_ready (rs := [2, 5]) (by kernel_rfl) (by simp) ?_
          refine AllReadyIn.cons rfl (fun K hK => ?_) ?_
          · go_simp
            refine hK _ _ ?_
            clear hK K
            refine wpAnyIn_ready (rs := [3, 5]) (by kernel_rfl) (by simp) ?_
            refine AllReadyIn.cons rfl (fun K hK => ?_) ?_
            · go_simp
              refine hK _ _ ?_
              clear hK K
              refine wpAnyIn_ready (rs := [5]) (by kernel_rfl) (by simp) ?_
              refine AllReadyIn.cons rfl (fun K hK => ?_) ?_
              · go_simp
                refine hK _ _ ?_
                clear hK K
                refine wpAnyIn_ready (rs := [6]) (by kernel_rfl) (by simp) ?_
                refine AllReadyIn.cons rfl (fun K hK => ?_) ?_
                · go_simp
                  refine hK _ _ ?_
                  clear hK K
                  refine wpAnyIn_ready (rs := [7]) (by kernel_rfl) (by simp) ?_
                  refine AllReadyIn.cons rfl (fun K hK => ?_) ?_
                  · go_simp
                    refine hK _ _ ?_
                    clear hK K
                    refine wpAnyIn_ready (rs := [8]) (by kernel_rfl) (by simp) ?_
                    refine AllReadyIn.cons rfl (fun K hK => ?_) ?_
                    · go_simp
                      refine hK _ _ ?_
                      clear hK K
                      refine wpAnyIn_ready (rs := [9]) (by kernel_rfl) (by simp) ?_
                      refine AllReadyIn.cons rfl (fun K hK => ?_) ?_
                      · go_simp
                        refine hK _ _ ?_
                        clear hK K
                        refine wpAnyIn_done (by kernel_rfl) ?_ _
                        gi_wp2
                        exact hfin
                      exact AllReadyIn.nil
                    exact AllReadyIn.nil
                  exact AllReadyIn.nil
                exact AllReadyIn.nil
              exact AllReadyIn.nil
            refine AllReadyIn.cons rfl (fun K hK => ?_) ?_
            · go_simp
              refine hK _ _ ?_
              clear hK K
              refine wpAnyIn_ready (rs := [3]) (by kernel_rfl) (by simp) ?_
              refine AllReadyIn.cons rfl (fun K hK => ?_) ?_
              · go_simp
                refine hK _ _ ?_
                clear hK K
                refine wpAnyIn_ready (rs := [6]) (by kernel_rfl) (by simp) ?_
                refine AllReadyIn.cons rfl (fun K hK => ?_) ?_
                · go_simp
                  refine hK _ _ ?_
                  clear hK K
                  refine wpAnyIn_ready (rs := [7]) (by kernel_rfl) (by simp) ?_
                  refine AllReadyIn.cons rfl (fun K hK => ?_) ?_
                  · go_simp
                    refine hK _ _ ?_
                    clear hK K
                    refine wpAnyIn_ready (rs := [8]) (by kernel_rfl) (by simp) ?_
                    refine AllReadyIn.cons rfl (fun K hK => ?_) ?_
                    · go_simp
                      refine hK _ _ ?_
                      clear hK K
                      refine wpAnyIn_ready (rs := [9]) (by kernel_rfl) (by simp) ?_
                      refine AllReadyIn.cons rfl (fun K hK => ?_) ?_
                      · go_simp
                        refine hK _ _ ?_
                        clear hK K
                        refine wpAnyIn_done (by kernel_rfl) ?_ _
                        gi_wp2
                        exact hfin
                      exact AllReadyIn.nil
                    exact AllReadyIn.nil
                  exact AllReadyIn.nil
                exact AllReadyIn.nil
              exact AllReadyIn.nil
            exact AllReadyIn.nil
          refine AllReadyIn.cons rfl (fun K hK => ?_) ?_
          · go_simp
            refine hK _ _ ?_
            clear hK K
            refine wpAnyIn_ready (rs := [2]) (by kernel_rfl) (by simp) ?_
            refine AllReadyIn.cons rfl (fun K hK => ?_) ?_
            · go_simp
              refine hK _ _ ?_
              clear hK K
              refine wpAnyIn_ready (rs := [3]) (by kernel_rfl) (by simp) ?_
              refine AllReadyIn.cons rfl (fun K hK => ?_) ?_
              · go_simp
                refine hK _ _ ?_
                clear hK K
                refine wpAnyIn_ready (rs := [6]) (by kernel_rfl) (by simp) ?_
                refine AllReadyIn.cons rfl (fun K hK => ?_) ?_
                · go_simp
                  refine hK _ _ ?_
                  clear hK K
                  refine wpAnyIn_ready (rs := [7]) (by kernel_rfl) (by simp) ?_
                  refine AllReadyIn.cons rfl (fun K hK => ?_) ?_
                  · go_simp
                    refine hK _ _ ?_
                    clear hK K
                    refine wpAnyIn_ready (rs := [8]) (by kernel_rfl) (by simp) ?_
                    refine AllReadyIn.cons rfl (fun K hK => ?_) ?_
                    · go_simp
                      refine hK _ _ ?_
                      clear hK K
                      refine wpAnyIn_ready (rs := [9]) (by kernel_rfl) (by simp) ?_
                      refine AllReadyIn.cons rfl (fun K hK => ?_) ?_
                      · go_simp
                        refine hK _ _ ?_
                        clear hK K
                        refine wpAnyIn_done (by kernel_rfl) ?_ _
                        gi_wp2
                        exact hfin
                      exact AllReadyIn.nil
                    exact AllReadyIn.nil
                  exact AllReadyIn.nil
                exact AllReadyIn.nil
              exact AllReadyIn.nil
            exact AllReadyIn.nil
          exact AllReadyIn.nil
        refine AllReadyIn.cons rfl (fun K hK => ?_) ?_
        · go_simp
          refine hK _ _ ?_
          clear hK K
          refine wpAnyIn_ready (rs := [1]) (by kernel_rfl) (by simp) ?_
          refine AllReadyIn.cons rfl (fun K hK => ?_) ?_
          · go_simp
            refine hK _ _ ?_
            clear hK K
            refine wpAnyIn_ready (rs := [2]) (by kernel_rfl) (by simp) ?_
            refine AllReadyIn.cons rfl (fun K hK => ?_) ?_
            · go_simp
              refine hK _ _ ?_
              clear hK K
              refine wpAnyIn_ready (rs := [3]) (by kernel_rfl) (by simp) ?_
              refine AllReadyIn.cons rfl (fun K hK => ?_) ?_
              · go_simp
                refine hK _ _ ?_
                clear hK K
                refine wpAnyIn_ready (rs := [6]) (by kernel_rfl) (by simp) ?_
                refine AllReadyIn.cons rfl (fun K hK => ?_) ?_
                · go_simp
                  refine hK _ _ ?_
                  clear hK K
                  refine wpAnyIn_ready (rs := [7]) (by kernel_rfl) (by simp) ?_
                  refine AllReadyIn.cons rfl (fun K hK => ?_) ?_
                  · go_simp
                    refine hK _ _ ?_
                    clear hK K
                    refine wpAnyIn_ready (rs := [8]) (by kernel_rfl) (by simp) ?_
                    refine AllReadyIn.cons rfl (fun K hK => ?_) ?_
                    · go_simp
                      refine hK _ _ ?_
                      clear hK K
                      refine wpAnyIn_ready (rs := [9]) (by kernel_rfl) (by simp) ?_
                      refine AllReadyIn.cons rfl (fun K hK => ?_) ?_
                      · go_simp
                        refine hK _ _ ?_
                        clear hK K
                        refine wpAnyIn_done (by kernel_rfl) ?_ _
                        gi_wp2
                        exact hfin
                      exact AllReadyIn.nil
                    exact AllReadyIn.nil
                  exact AllReadyIn.nil
                exact AllReadyIn.nil
              exact AllReadyIn.nil
            exact AllReadyIn.nil
          exact AllReadyIn.nil
        exact AllReadyIn.nil
      refine AllReadyIn.cons rfl (fun K hK => ?_) ?_
      · go_simp
        refine hK _ _ ?_
        clear hK K
        refine wpAnyIn_ready (rs := [0]) (by kernel_rfl) (by simp) ?_
        refine AllReadyIn.cons rfl (fun K hK => ?_) ?_
        · go_simp
          refine hK _ _ ?_
          clear hK K
          refine wpAnyIn_ready (rs := [1]) (by kernel_rfl) (by simp) ?_
          refine AllReadyIn.cons rfl (fun K hK => ?_) ?_
          · go_simp
            refine hK _ _ ?_
            clear hK K
            refine wpAnyIn_ready (rs := [2]) (by kernel_rfl) (by simp) ?_
            refine AllReadyIn.cons rfl (fun K hK => ?_) ?_
            · go_simp
              refine hK _ _ ?_
              clear hK K
              refine wpAnyIn_ready (rs := [3]) (by kernel_rfl) (by simp) ?_
              refine AllReadyIn.cons rfl (fun K hK => ?_) ?_
              · go_simp
                refine hK _ _ ?_
                clear hK K
                refine wpAnyIn_ready (rs := [6]) (by kernel_rfl) (by simp) ?_
                refine AllReadyIn.cons rfl (fun K hK => ?_) ?_
                · go_simp
                  refine hK _ _ ?_
                  clear hK K
                  refine wpAnyIn_ready (rs := [7]) (by kernel_rfl) (by simp) ?_
                  refine AllReadyIn.cons rfl (fun K hK => ?_) ?_
                  · go_simp
                    refine hK _ _ ?_
                    clear hK K
                    refine wpAnyIn_ready (rs := [8]) (by kernel_rfl) (by simp) ?_
                    refine AllReadyIn.cons rfl (fun K hK => ?_) ?_
                    · go_simp
                      refine hK _ _ ?_
                      clear hK K
                      refine wpAnyIn_ready (rs := [9]) (by kernel_rfl) (by simp) ?_
                      refine AllReadyIn.cons rfl (fun K hK => ?_) ?_
                      · go_simp
                        refine hK _ _ ?_
                        clear hK K
                        refine wpAnyIn_done (by kernel_rfl) ?_ _
                        gi_wp2
                        exact hfin
                      exact AllReadyIn.nil
                    exact AllReadyIn.nil
                  exact AllReadyIn.nil
                exact AllReadyIn.nil
              exact AllReadyIn.nil
            exact AllReadyIn.nil
          exact AllReadyIn.nil
        exact AllReadyIn.nil
      exact AllReadyIn.nil
    exact AllReadyIn.nil
  case done =>
    rintro Dd ys W hD rfl ⟨⟨vr, hvb, hvr, _⟩, hb2, ⟨⟨a0, a1⟩, ⟨a2, a3⟩, a4, a5⟩, hO⟩ hK
    have hsz := hO.size
    gi_wp2
    refine wpIn_wide.2 ?_
    obtain ⟨Av, cv, rfl, hcv, _⟩ := (ownsAt_of hvr).shape
    have HTW := hid (List.takeWhile_prefix (dueB now) (l := l)).length_le
    generalize hTT : l.takeWhile (dueB now) = tk at *
    obtain ⟨T, hT⟩ : ∃ T, tk.length = T := ⟨_, rfl⟩
    have hTm : T ≤ m := by rw [← hT, ← HM.out]; exact HTW.out
    have HVR := hid hvr
    rw [hT] at HVR hvb hcv
    have HTk := hid hT
    have HTT := hid hTT
    clear hvr hT hTT
    have hT0 : (0 : Int) ≤ (T : Int) := by omega
    have hT1 : (T : Int) ≤ (m : Int) := by omega
    refine wp_region_noPanic ?_
    refine wp_region_turn (q := q) (.rd 0 (.rd 1 (.rd 2 (.rd 3 (.rd 5 (.rd 6 (.ac 4 (.rd 7 (.rd 8 (.rd 9 (.ac 10 .done))))))))))) (by kernel_rfl) (by kernel_rfl) (fun _ _ d _ _ h => by cases d <;> exact h) (by simp only [Ord.map, nthOp, List.append]; rfl) ?_
    intro d2
    have hEd := Ext.grow (Ext.refl W) d2
    have y0 := (hEd.block s0 hb2.lt).trans hb2
    have y1 := (hEd.block (s0 + 1) hvb.lt).trans hvb
    have y2 := (hEd.cells q 2 (by omega)).trans a4
    have y3 := (hEd.frozens q 2 (by omega)).trans a5
    have y4 := hid (And.intro ((hEd.cells q 0 (by omega)).trans a0) ((hEd.frozens q 0 (by omega)).trans a1))
    have y5 := hid (And.intro ((hEd.cells q 1 (by omega)).trans a2) ((hEd.frozens q 1 (by omega)).trans a3))
    have hO8 := hid (hO.transExt hEd)
    have hK8 : (Go.Proofs.Ytlbemgkdpagoiaa.grow W d2).heap[Dd]? = some (.deferred (some [])) := (hEd.block Dd (Array.getElem?_eq_some_iff.1 hK).1).trans hK
    have HVR8 := hid ((HVR.out.kept (row := none) (gives_grown hEd) (Classical.em _)))
    generalize Go.Proofs.Ytlbemgkdpagoiaa.grow W d2 = W8 at y0 y1 y2 y3 y4 y5 hO8 hK8 HVR8 ⊢
    clear hb2 hvb a0 a1 a2 a3 a4 a5 hK HVR hEd hO
    have z0 : W8.cell? ⟨s0, 0, none⟩ = some (.pointer (some ⟨q, 0, none⟩)) := Boxed.cell y0
    have z1 : W8.cell? ⟨s0 + 1, 0, none⟩ = some (.slice Av T cv) := Boxed.cell y1
    have ne0 : ¬ s0 = q := by omega
    have l0 : s0 < W8.heap.size := Boxed.lt y0
    have l1 : s0 + 1 < W8.heap.size := Boxed.lt y1
    have l2 : q < W8.heap.size := by omega
    have ne1 : ¬ s0 + 1 = q := by omega
    have hO0 := HQ0.out.2.2.2.1
    rw [HM.out] at hO0
    have hnq0 : ∀ g, (Value.slice A m ca).ownBlock = some g → g < s0 ∧ g ≠ q := fun g hg => by
      have h1 := hO0.lt g hg
      have h2 := HQ.out.2.2.2.2.2 g ((own_len _ _ _ _ _).trans hg)
      have h3 := HQ.out.2.2.2.1.lt g ((own_len _ _ _ _ _).trans hg)
      exact ⟨by omega, h2⟩
    by_cases hct : ca = T
    · obtain rfl : m = T := by omega
      repeat' (first | (refine turn_read (by rfl) (fun K hK => ?_); go_big_quiet_op; refine hK _ ?_; clear hK K) | (refine turn_act (by rfl) (fun K hK => ?_); go_wp2_with fail; refine ⟨_, Only.refl _ _, (by first | exact Only.refl _ _ | exact Only.setCell (S := fun i => i = q) (Only.refl _ _) (.inl rfl) _), ?_⟩))
      refine turn_nil ?_
      refine NoPanic.normal ?_
      gi_wp2
      refine ⟨by simp, .inl ⟨_, _, rfl, run_takeDeferred (ds := []) ?hkk, ?fin⟩⟩
      case hkk => exact ((Only.setCell (S := fun i => i = q) (Only.refl (fun i => i = q) W8) (.inl rfl) _).block Dd (Array.getElem?_eq_some_iff.1 hK8).1 (by omega)).trans hK8
      case fin =>
        have hown8 := ownsAt.keep8 (s0 := s0) hO0 hO8.out hnq0 (by omega)
        have hfin := due_last w W0 W8 q base s0 Dd (m - m) m full _ _ (.slice A 0 0) (.slice Av m cv) (l.drop m) tk hE0.out hs0 hq0 hbs hZ hO8.out y4.out y5.out y2 y3 hD hK8 (by rw [List.length_drop, HM.out]) (by rw [Nat.sub_self, List.drop_eq_nil_of_le (by rw [HM.out]; exact Nat.le_refl _)]; exact hown8.shut) (fun g hg => hnq0 g ((own_len _ _ _ _ _).trans hg)) HVR8.out
        exact ⟨_, results_tmp rfl _ _ _, _, _, rfl, by rw [HTT.out, HTk.out]; exact hfin.1, by rw [HTT.out, HTk.out, hs0]; exact hfin.2.1, hfin.2.2, own_len _ _ _ _ _⟩
    · repeat' (first | (refine turn_read (by rfl) (fun K hK => ?_); go_big_quiet_op; refine hK _ ?_; clear hK K) | (refine turn_act (by rfl) (fun K hK => ?_); go_wp2_with fail; refine ⟨_, Only.refl _ _, (by first | exact Only.refl _ _ | exact Only.setCell (S := fun i => i = q) (Only.refl _ _) (.inl rfl) _), ?_⟩))
      refine turn_nil ?_
      refine NoPanic.normal ?_
      gi_wp2
      refine ⟨by simp, .inl ⟨_, _, rfl, run_takeDeferred (ds := []) ?hkk, ?fin⟩⟩
      case hkk => exact ((Only.setCell (S := fun i => i = q) (Only.refl (fun i => i = q) W8) (.inl rfl) _).block Dd (Array.getElem?_eq_some_iff.1 hK8).1 (by omega)).trans hK8
      case fin =>
        have hown8 := ownsAt.keep8 (s0 := s0) hO0 hO8.out hnq0 (by omega)
        have hfin := due_last w W0 W8 q base s0 Dd (m - T) T full _ _ (.slice (A.map fun x => x.add (T * 3)) (m - T) (ca - T)) (.slice Av T cv) (l.drop T) tk hE0.out hs0 hq0 hbs hZ hO8.out y4.out y5.out y2 y3 hD hK8 (by rw [List.length_drop, HM.out]) (hown8.slice hTm) (fun g hg => hnq0 g ((hO0.own_slice _ _ _).symm.trans hg)) HVR8.out
        exact ⟨_, results_tmp rfl _ _ _, _, _, rfl, by rw [HTT.out, HTk.out]; exact hfin.1, by rw [HTT.out, HTk.out, hs0]; exact hfin.2.1, hfin.2.2, (hO0.own_slice _ _ _).trans (own_len _ _ _ _ _)⟩
  case stop =>
    rintro D c pre W _ _ h _
    exact h.elim

end Go.Proofs.Ytlbemgkdpagoiaa
