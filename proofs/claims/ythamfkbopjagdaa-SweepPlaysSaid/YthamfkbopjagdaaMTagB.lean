/- MTagB: TagK TagL TagM TagN TagO TagP TagQ -/
import Derived.Test.YthamfkbopjagdaaMTagA
import Derived.Deep.RegionHeld3
namespace Go.Proofs.Ythamfkbopjagdaa
set_option maxRecDepth 100000
set_option linter.unusedSimpArgs false
set_option linter.unusedVariables false
open Go.RowKit

attribute [local go_sem] Oper.semAt_some
theorem wpListIn_append_at {F : Fence} {n : Nat} {P : Program} (w : World) {ops : Array Oper} {rest : List Oper} {o : Oper} {a : Act} {Q : Exit → Act → World → Prop}
    (hg : o.guard = none) (s x : Operand) (t : TypeId) (hop : o.op = Op.call { callee := Callee.builtin Builtin.append, args := #[s, x], argTypes := #[t, t] })
    (base : Nat) (e : TypeId) (i : TypeInfo) (z : Value) (size bytes : Nat) (h1 : P.underlying t = some (.slice e)) (h2 : P.info? e = some i) (h3 : i.zero = some z) (h4 : i.size = size) (h5 : i.bytes = bytes) (h6 : z.cells.size = size) (h7 : 0 < size)
    (v : Value) (k : Nat) (xs : List Value) (hs : a.eval s = v) (hown : ownsAt w base e size v k xs) (ad : Addr) (m c : Nat) (news : List Value) (hx : a.eval x = .slice (some ad) m c) (hn : news.length = m * size)
    (hc : ∀ j u, news[j]? = some u → w.cell? (ad.add j) = some u) (h1c : ∀ u ∈ news, u.oneCell' = true) (b1 : k + m ≤ maxLen) (b2 : (k + m) * bytes ≤ 140737488355328) (b3 : base ≤ w.heap.size) (hm0 : 0 < m)
    (hK : ∀ v' w', ownsAt w' base e size v' (k + m) (xs ++ news) → w.grownBy w' v.ownBlock → (v'.ownBlock = v.ownBlock ∨ ∃ g, v'.ownBlock = some g ∧ w.heap.size ≤ g) → wpListIn F n P ops Q rest (a.put o.dst v') w') :
    wpListIn F n P ops Q (o :: rest) a w := by
  refine wpListIn_plain hg fun K hK' => ?_
  obtain ⟨v', w', hrun, r1, r2, r3⟩ := run_append_at (P := P) w base t o.type e i z size bytes h1 h2 h3 h4 h5 h6 h7 v k xs hown ad m c news hn hc h1c b1 b2 b3 hm0
  unfold Oper.wpIn
  refine ⟨?_, ?_⟩
  · simp [Oper.about, hop, resolve, Target.leads, Sem.run_pure]
  · rw [Oper.semAt_plain F _ _ (by rw [hop]; intro c hc'; cases hc')]
    simp [execOp, hop, resolve, invoke, builtin, hs, hx, hrun, Result.andThen]
    exact hK' _ _ (hK v' w' r1 r2 r3)
theorem Only.weaken {S S' : Nat → Prop} {w w' : World} (h : Only S w w') (hs : ∀ i, S i → S' i) : Only S' w w' := ⟨h.os, h.tape, h.output, h.size, fun k hk hn => h.block k hk fun e => hn (hs k e)⟩
theorem KpT.refl (lb : Nat) (W : World) : KpT lb W W := ⟨Only.refl _ _, fun _ h => .inl h⟩
theorem KpT.putObj {lb : Nat} (W : World) (l : Nat) (o o' : Obj) (hne : ¬ lb = l) (hlb : lb < W.heap.size) (hl : W.heap[l]? = some o) (hc : o.isCells = false) : KpT lb W (W.putObj l o') := by
  refine ⟨grownOnly (grownBy_putObj' W l o') fun g e => by cases e; exact .inr (.inr ⟨o, hl, hc⟩), ?_⟩
  rintro i ⟨o1, n1, c1, e⟩
  refine .inl ⟨o1, n1, c1, ?_⟩
  have h : Only (fun i => i = l) W (W.putObj l o') := grownOnly (grownBy_putObj' W l o') fun g e => by cases e; rfl
  exact (h.cells lb 0 hlb hne).symm.trans e
theorem own_eq (A : Option Addr) (n c i : Nat) (h : (Value.slice A n c).ownBlock = some i) : ∃ a, A = some a ∧ a.block = i := by
  cases A with
  | none => cases h
  | some a => exact ⟨a, rfl, by simpa [Value.ownBlock] using h⟩
/-- A slice of one's own points into its row. -/
theorem ownsAt.ownBox {w : World} {base : Nat} {e : TypeId} {size : Nat} {v : Value} {n : Nat} {xs : List Value} {lb g : Nat} (h : ownsAt w base e size v n xs) (hb : w.cell? ⟨lb, 0, none⟩ = some v) (hg : v.ownBlock = some g) : ownAtBox lb w g := by
  rcases h.2 with ⟨rfl, _⟩ | ⟨g', o, cap, cur, rfl, _⟩
  · cases hg
  · obtain rfl : g' = g := by simpa [Value.ownBlock] using hg
    exact ⟨_, _, _, hb⟩
theorem ownsAt.isCells {w : World} {base : Nat} {e : TypeId} {size : Nat} {v : Value} {n : Nat} {xs : List Value} {g : Nat} (h : ownsAt w base e size v n xs) (hg : v.ownBlock = some g) : ∀ o : Obj, w.heap[g]? = some o → o.isCells = true := by
  rcases h.2 with ⟨rfl, _⟩ | ⟨g', o, cap, cur, rfl, _, h1, _⟩
  · cases hg
  · obtain rfl : g' = g := by simpa [Value.ownBlock] using hg
    intro o ho
    rw [h1] at ho
    cases ho
    rfl
/-- What lies, when tags are gathered. -/
def TagI (W0 : World) (s0 : Nat) (t e : TypeId) (pre : List Nat) (W : World) : Prop :=
  (∃ vr, Boxed W s0 t vr ∧ ownsAt W (s0 + 2) e 1 vr pre.length (ints (pre.map (16 * ·)))) ∧ Only (fun i => i = s0 ∨ W0.heap.size ≤ i) W0 W
theorem TagI.own {W0 : World} {s0 : Nat} {t e : TypeId} {B : Nat} (hB : W0.heap.size ≤ B) : OwnFrom B (fun pre W => TagI W0 s0 t e pre W) := by
  rintro pre W W' row ⟨⟨vr, h1, h2⟩, h4⟩ hg hr
  have hO : Only (fun i => row = some i) W W' := grownOnly hg fun g e => e
  refine ⟨⟨vr, (hO.block s0 h1.lt fun e => ?_).trans h1, h2.only hO fun g hg2 e => ?_⟩, h4.trans' (grownOnly hg fun g e => .inr (Nat.le_trans hB (hr g e).1))⟩
  · obtain ⟨_, o, ho, hc⟩ := hr s0 e
    rw [show W.heap[s0]? = _ from h1] at ho
    cases ho
    cases hc
  · obtain ⟨_, o, ho, hc⟩ := hr g e
    rw [h2.isCells hg2 o ho] at hc
    cases hc
/-- One round. -/
theorem tags_round {W0 W w1 : World} {s0 : Nat} {t e : TypeId} {vr v' : Value} {pre : List Nat} {x : Nat} {row : Obj} (hte : ¬ t = e) (hZ : W0.heap.size = s0 + 2) (hO : Only (fun i => i = s0 ∨ W0.heap.size ≤ i) W0 W) (hvb : Boxed W s0 t vr) (hvr : ownsAt W (s0 + 2) e 1 vr pre.length (ints (pre.map (16 * ·))))
    (hgrow : (W.alloc row).grownBy w1 vr.ownBlock) (hown : ownsAt w1 (s0 + 2) e 1 v' (pre.length + 1) (ints (pre.map (16 * ·)) ++ [.int .i64 ((16 * x : Nat) : Int)])) (hat : v'.ownBlock = vr.ownBlock ∨ ∃ g, v'.ownBlock = some g ∧ (W.alloc row).heap.size ≤ g) :
    KeepsFrom W0.heap.size W (w1.setCell ⟨s0, 0, none⟩ v') ∧ KpT s0 W (w1.setCell ⟨s0, 0, none⟩ v') ∧ TagI W0 s0 t e (pre ++ [x]) (w1.setCell ⟨s0, 0, none⟩ v') := by
  have hsz : (W.alloc row).heap.size = W.heap.size + 1 := by simp
  have h1 : Only (fun i => i = s0 ∨ vr.ownBlock = some i) W w1 := (Only.alloc (Only.refl _ _) _).trans' (grownOnly hgrow fun g e => .inr e)
  have h2 : Only (fun i => i = s0 ∨ vr.ownBlock = some i) W (w1.setCell ⟨s0, 0, none⟩ v') := Only.setCell h1 (.inl (.inl rfl)) v'
  have hb1 : Boxed w1 s0 t vr := (hvb.alloc row).kept hgrow fun e => by have := (hvr.lt s0 e.symm).1; omega
  have hb2 := hb1.set v'
  have hne : ¬ v'.ownBlock = some s0 := fun e => by have := (hown.lt s0 e).1; omega
  refine ⟨⟨h2.size, fun k o hk ho hc => (h2.block k (Array.getElem?_eq_some_iff.1 ho).1 ?_).trans ho⟩, ⟨h2.weaken ?_, ?_⟩, ⟨v', hb2, ?_⟩, ?_⟩
  · rintro (rfl | e)
    · omega
    · rw [hvr.isCells e o ho] at hc
      cases hc
  · rintro i (rfl | e)
    · exact .inl rfl
    · exact .inr (.inl (hvr.ownBox hvb.cell e))
  · rintro i ⟨o1, n1, c1, e⟩
    rw [hb2.cell] at e
    cases e
    rcases hat with h | ⟨g, h, h3⟩
    · exact .inl (hvr.ownBox hvb.cell (h.symm.trans rfl))
    · cases h
      exact .inr (by simp only at h3; omega)
  · rw [List.length_append, List.map_append, ints_append]
    exact hown.only (S := fun i => i = s0) (Only.setCell (S := fun i => i = s0) (Only.refl _ _) (.inl rfl) v') fun g hg e => hne (by rw [hg, e])
  · refine hO.trans' (h2.weaken ?_)
    rintro i (rfl | e)
    · exact .inl rfl
    · exact .inr (by have := (hvr.lt i e).1; omega)
/-- What is walked over. -/
theorem tagsS_ (n : Nat) (hn : 2 ≤ n) (q g np s0 : Nat) (B : Nat → Int) (T D : Nat → Bool) (w : World) (hqb : w.cell? ⟨s0 + 1, 0, none⟩ = some (.pointer (some ⟨q, 0, none⟩))) (hs : s0 + 1 < w.heap.size) (hM : Mm w q g np B T D) (hq : q < s0) (hg : g < s0) (hbx : Boxed w s0 52 (.slice none 0 0)) :
    SeqStopsK Fence.wide n Try.prog 76 #[.pointer (some ⟨s0 + 1, 0, none⟩)] (fun x : Nat => #[Value.int .i64 ((16 * x : Nat) : Int)]) (KpT s0) (fun ys => ys = whichN T (16 * np)) (fun _ => True) (16 * np) w := fun l0 J Jx W hW hJ _ hY h0 => by
  have hE : Only (fun i => w.heap.size ≤ i) w W := ⟨hW.os, hW.tape, hW.output, hW.size, fun k hk _ => hW.block k hk⟩
  exact tgA_ n hn l0 q g np (s0 + 1) s0 B T D J Jx hY W hJ ((hW.cell (p := ⟨s0 + 1, 0, none⟩) hs).trans hqb) (Nat.lt_of_lt_of_le hs hW.size) (by omega) (hM.only hE (by have := hM.ltq; omega) (by have := hM.ltg; omega)) (by omega) (by omega) (Nat.lt_of_lt_of_le hbx.lt hW.size) (fun i => by
    rintro ⟨o1, n1, c1, e⟩
    rw [(hW.cell (p := ⟨s0, 0, none⟩) hbx.lt).trans hbx.cell] at e
    cases e) h0
set_option maxRecDepth 100000 in
set_option maxHeartbeats 4000000 in
theorem ttags_ (q g n : Nat) (B : Nat → Int) (T D : Nat → Bool) (w : World) (h : Mm w q g n B T D) : Calls Try.prog 33 #[.pointer (some ⟨q, 0, none⟩)] w fun e w' => ∃ A ca, e = .returned (.slice A (whichN T (16 * n)).length ca) ∧ Hid (RdN w' A ((whichN T (16 * n)).map (16 * ·))) ∧ Hid (Ext w w') ∧ Hid (∀ b o, A = some ⟨b, o, none⟩ → w.heap.size ≤ b) := by
  refine (callsIn_wide (n := 6)).1 ?_
  refine callsIn_of_wp_marks Try.func33 rfl trivial ?_ rfl
  simp only [Try.ntmps33]
  simp only [List.size_toArray, List.length_cons, List.length_nil, Nat.reduceAdd, Nat.reduceSub, Array.replicate_succ, Array.replicate_zero, List.push_toArray, List.append_toArray, List.nil_append, List.cons_append]
  have HM := hid h
  clear h
  gi_wp2_with ((try refine ⟨trivial, ?_⟩); gi_at_call 59; refine CallsIn.mono (callsIn_wide.2 (ttaggedF_ _ _)) ?_; rintro e w1 ⟨rfl, rfl⟩)
  refine wpIn_gen (fun W => Hid (Ext w W) ∧ Hid (W.heap.size = w.heap.size + 2) ∧ Hid (Boxed W w.heap.size 52 (.slice none 0 0)) ∧ Hid (W.cell? ⟨w.heap.size + 1, 0, none⟩ = some (.pointer (some ⟨q, 0, none⟩))))
    ⟨hid (by repeat (first | (with_reducible exact Ext.refl _) | (with_reducible refine Ext.undrew ?_) | (with_reducible refine Ext.grow ?_ _) | (with_reducible refine Ext.drew ?_) | (with_reducible refine Ext.drewN ?_ _) | (with_reducible refine Ext.alloc ?_ _) | (with_reducible assumption) | ((with_reducible refine Ext.setCell ?_ ?_ _); rotate_left; (first | exact Nat.le_refl _ | ((try dsimp only); (try simp only [World.size_alloc, grow_size, World.size_setCell]); omega))))), hid (by simp), hid ?p2, hid (by simp [go_sem])⟩ ?_
  case p2 => exact (Boxed.new w 52 (.slice none 0 0)).alloc _
  rintro W0 ⟨hE0, hZ0, hL0, hc2⟩
  obtain ⟨s0, hs0⟩ : ∃ s, w.heap.size = s := ⟨_, rfl⟩
  rw [hs0] at hZ0 hL0 hc2 ⊢
  have hZ := hZ0.out
  have HM0 := hid (HM.out.ext hE0.out)
  have hq0 : q < s0 := by have := HM.out.ltq; omega
  have hg0 : g < s0 := by have := HM.out.ltg; omega
  have hbd := HM.out.bd
  obtain ⟨i0, hi0, hz0, hz1, hz2⟩ := info_parts info_int
  refine wpIn_rangeFunc_ownH rfl (by omega) (gf := 76) (lb := #[.pointer (some ⟨s0 + 1, 0, none⟩)]) rfl trivial (enters_of Try.func76 (by kernel_rfl) rfl)
    (tagsS_ 5 (by omega) q g n s0 B T D W0 hc2.out (by omega) HM0.out hq0 hg0 hL0.out)
    (fun h k => h.trans k) (fun W l o o' hl ho hc _ => KpT.putObj W l o o' (by omega) ?kb ho hc) (Below.refl _ _) (fun _ => rfl)
    (fun pre W => TagI W0 s0 52 3 pre W) (fun _ _ _ => False) (TagI.own (Nat.le_refl _)) (fun _ _ _ _ _ hs _ _ => hs)
    ⟨⟨_, hL0.out, ownsAt_nil _ _ _ _⟩, Only.refl _ _⟩
    (fun x a' W => a' = { tmps := #[.pointer (some ⟨q, 0, none⟩), undef, .slice none 0 0, .pointer (some ⟨s0, 0, none⟩), .int .i64 ((16 * x : Nat) : Int), .pointer (some ⟨q, 0, none⟩), .func (.func 76) #[] #[.pointer (some ⟨s0 + 1, 0, none⟩)], .int .i64 ((16 * x : Nat) : Int), undef, undef, undef, undef, undef], defers := [] })
    ?ax ?assign ?body ?done ?stop
  case kb => exact Nat.lt_of_le_of_lt (by omega) (Array.getElem?_eq_some_iff.1 ho).1
  case ax =>
    rintro x a' ⟨⟩ W W' row h hg hr
    exact h
  case assign =>
    rintro l0 pre x W K hI hK
    gi_wp2
    exact hK _ _ (KeepsFrom.refl _ _) (KpT.refl _ _) hI rfl
  case body =>
    rintro l0 pre x a' W hl0 _ hI rfl hlen
    obtain ⟨⟨vr, hvb, hvr⟩, hO⟩ := hI
    have hv1 := hvb.cell
    have hv2 := hvb.frozen
    have hsz := hO.size
    have HVR := hid hvr
    have HVB := hid hvb
    have HO := hid hO
    clear hvr hvb hO
    gi_wp2_with (gi_at_builtin; go_loud (refine wpListIn_append_at _ rfl _ _ 52 rfl (s0 + 2) 3 i0 _ 1 8 Try.underlying52 hi0 hz0 hz1 hz2 rfl (by decide) vr pre.length (ints (pre.map (16 * ·))) rfl (HVR.out.only (S := fun _ => False) (Only.alloc (Only.refl _ _) _) (fun _ _ h => h)) ⟨W.heap.size, 0, none⟩ 1 1 [.int .i64 ((16 * x : Nat) : Int)] rfl rfl (fun j u hj => by rw [Addr.add_lit]; exact (Row.new W #[.int .i64 ((16 * x : Nat) : Int)] _).range j u hj) (fun u hu => by obtain rfl : u = _ := List.mem_singleton.1 hu; rfl) (by unfold maxLen; omega) (by omega) (by simp; omega) (by omega) ?_; intro v' w1 hown' hgrow hat'; obtain ⟨A', ca', rfl, _, _⟩ := hown'.shape; have hfin := hid (tags_round (by decide) hZ HO.out HVB.out HVR.out hgrow hown' hat'); have hb1 := ((HVB.out.alloc _).kept hgrow (fun e => by have := (HVR.out.lt s0 e.symm).1; omega)); have hc1 := hb1.cell; have hf1 := hb1.frozen; clear hown' hgrow hat' hb1))
    exact hfin.out
  case done =>
    rintro Dd ys W hD rfl ⟨⟨vr, hvb, hvr⟩, hO⟩ hK
    have hsz := hO.size
    have hv1 := hvb.cell
    obtain ⟨Av, cv, rfl, hcv, _⟩ := hvr.shape
    have HVR := hid hvr
    have HO := hid hO
    clear hvr hO hvb
    gi_wp2
    refine ⟨by simp, .inl ⟨_, _, rfl, run_takeDeferred (ds := []) ?hkk, ?fin⟩⟩
    case hkk => exact hK
    case fin =>
      have hp : Only (fun i => i = Dd) W (W.putObj Dd (.deferred none)) := grownOnly (grownBy_putObj' W Dd _) fun g e => by cases e; rfl
      have hX : Ext w (W.putObj Dd (.deferred none)) := Ext.only (Ext.only hE0.out HO.out fun i h => by rcases h with h | h <;> omega) hp fun i h => by omega
      refine ⟨_, results_tmp rfl _ _ _, Av, cv, ?e1, hid ?e2, hid hX, hid fun b o e => by have := (HVR.out.lt b (by rw [e]; rfl)).1; omega⟩
      case e1 => rfl
      case e2 =>
        refine (ownsAt.rdN HVR.out (by simp)).only hp fun b o e h => ?_
        have := HVR.out.isCells (g := b) (by rw [e]; rfl) (.deferred (some [])) (by rw [h]; exact hK)
        cases this
  case stop =>
    rintro D c pre W _ _ h _
    exact h.elim
end Go.Proofs.Ythamfkbopjagdaa

namespace Go.Proofs.Ythamfkbopjagdaa
set_option maxRecDepth 100000
set_option linter.unusedSimpArgs false
set_option linter.unusedVariables false
open Go.RowKit

/-- The memory that the live question asks, as it goes on. -/
def HB (w W : World) (q g : Nat) (B : Nat → Int) (T D : Nat → Bool) : Prop := Mm W q g 2 B T D ∧ Ext w W ∧ w.heap.size ≤ g
theorem HB.ext {w W W' : World} {q g : Nat} {B : Nat → Int} {T D : Nat → Bool} (h : HB w W q g B T D) (x : Ext W W') : HB w W' q g B T D := ⟨h.1.ext x, h.2.1.trans x, h.2.2⟩
theorem HB.only {w W W' : World} {q g : Nat} {B B' : Nat → Int} {T D T' D' : Nat → Bool} (h : HB w W q g B T D) (x : Only (· = g) W W') (hm : Mm W' q g 2 B' T' D') : HB w W' q g B' T' D' := ⟨hm, Ext.only h.2.1 x (by rintro i rfl; exact h.2.2), h.2.2⟩
def hB1 : Nat → Int := putB (fun _ => 0) (256 * 1 + 16 * 0) (bytesC ⟨true, 16, 48, 20, 3, 0⟩)
def hT1 : Nat → Bool := upd1 (fun _ => false) (16 * 1 + 0) true
def hD1 : Nat → Bool := upd1 (fun _ => false) 1 (false || true)
def hB2 : Nat → Int := putB hB1 254 [1, 2, 3]
def hT2 : Nat → Bool := clrT hT1 254 3
def hD2 : Nat → Bool := upd1 hD1 1 false
theorem hb_sc (w W : World) (q g : Nat) (h : HB w W q g (fun _ => 0) (fun _ => false) (fun _ => false)) : Calls Try.prog 18 #[.pointer (some ⟨q, 0, none⟩), .int .i64 256, .agg #[.bool true, .int .i64 16, .int .i64 48, .int .i64 20, .int .i64 3, .int .i64 0]] W fun e W' => e = .returned (.bool true) ∧ Hid (HB w W' q g hB1 hT1 hD1) ∧ Hid (Only (· = g) W W') := by
  refine (tsc_yes q g 2 (fun _ => 0) (fun _ => false) (fun _ => false) W h.1 256 1 0 (by decide) (by decide) (by decide) true 16 48 20 3 0 (by rfl)).mono ?_
  rintro e W' ⟨rfl, hm, hx⟩
  exact ⟨rfl, hid (h.only hx.out hm.out), hx⟩
theorem hb_sc8 (w W : World) (q g : Nat) (h : HB w W q g hB1 hT1 hD1) : Calls Try.prog 18 #[.pointer (some ⟨q, 0, none⟩), .int .i64 8, .agg #[.bool true, .int .i64 16, .int .i64 48, .int .i64 20, .int .i64 3, .int .i64 0]] W fun e W' => e = .returned (.bool false) ∧ Hid (HB w W' q g hB1 hT1 hD1) ∧ Hid (Only (· = g) W W') := by
  refine (tsc_no1 q g 2 _ _ _ W h.1 8 true 16 48 20 3 0 (by unfold placeP; decide)).mono ?_
  rintro e W' ⟨rfl, hx⟩
  exact ⟨rfl, hid (h.ext hx), hid (Only.ofExt hx)⟩
theorem hb_lc1 (w W : World) (q g : Nat) (h : HB w W q g hB1 hT1 hD1) : Calls Try.prog 42 #[.pointer (some ⟨q, 0, none⟩), .int .i64 256] W fun e W' => e = .returned (.tuple #[.agg #[.bool true, .int .i64 16, .int .i64 48, .int .i64 20, .int .i64 3, .int .i64 0], .bool true]) ∧ Hid (HB w W' q g hB1 hT1 hD1) ∧ Hid (Only (· = g) W W') := by
  refine (tlc_yes q g 2 _ _ _ W h.1 256 1 0 (by decide) (by decide) (by decide)).mono ?_
  rw [show getL (bytesAt hB1 (256 * 1 + 16 * 0) 16) (hT1 (16 * 1 + 0)) = ⟨true, 16, 48, 20, 3, 0⟩ from by rfl]
  rintro e W' ⟨rfl, hx⟩
  exact ⟨rfl, hid (h.ext hx), hid (Only.ofExt hx)⟩
theorem hb_st (w W : World) (q g : Nat) (h : HB w W q g hB1 hT1 hD1) (b : Nat) (hr : RdB W (some ⟨b, 0, none⟩) [1, 2, 3]) (hb : ¬ b = g) : Calls Try.prog 16 #[.pointer (some ⟨q, 0, none⟩), .int .i64 254, .slice (some ⟨b, 0, none⟩) 3 3] W fun e W' => e = .returned (.bool true) ∧ Hid (HB w W' q g hB2 hT2 hD1) ∧ Hid (Only (· = g) W W') := by
  refine (tstore_yes q g 2 _ _ _ W h.1 254 (some ⟨b, 0, none⟩) 3 [1, 2, 3] hr (by unfold byteL; decide) (by decide) (by decide) (fun _ b' o' e => by cases e; exact hb)).mono ?_
  rintro e W' ⟨rfl, hm, hx⟩
  exact ⟨rfl, hid (h.only hx.out hm.out), hx⟩
theorem hb_lc2 (w W : World) (q g : Nat) (h : HB w W q g hB2 hT2 hD1) : Calls Try.prog 42 #[.pointer (some ⟨q, 0, none⟩), .int .i64 256] W fun e W' => ∃ b t a p k, e = .returned (.tuple #[.agg #[.bool false, .int .i64 b, .int .i64 t, .int .i64 a, .int .i64 p, .int .i64 k], .bool true]) ∧ Hid (HB w W' q g hB2 hT2 hD1) ∧ Hid (Only (· = g) W W') := by
  refine (tlc_yes q g 2 _ _ _ W h.1 256 1 0 (by decide) (by decide) (by decide)).mono ?_
  rw [show (getL (bytesAt hB2 (256 * 1 + 16 * 0) 16) (hT2 (16 * 1 + 0))).tag = false from by rfl]
  rintro e W' ⟨rfl, hx⟩
  exact ⟨_, _, _, _, _, rfl, hid (h.ext hx), hid (Only.ofExt hx)⟩
theorem hb_ld (w W : World) (q g : Nat) (h : HB w W q g hB2 hT2 hD1) : Calls Try.prog 44 #[.pointer (some ⟨q, 0, none⟩), .int .i64 254, .int .i64 4] W fun e W' => ∃ b, e = .returned (.tuple #[.slice (some ⟨b, 0, none⟩) 4 4, .bool true]) ∧ Hid (RdB W' (some ⟨b, 0, none⟩) [1, 2, 3, 0]) ∧ Hid (HB w W' q g hB2 hT2 hD1) ∧ Hid (Only (· = g) W W') ∧ ¬ b = g := by
  have hg := h.1.ltg
  refine (tload_yes q g 2 _ _ _ W h.1 254 4 (by decide)).mono ?_
  rw [show bytesAt hB2 254 4 = [1, 2, 3, 0] from by rfl]
  rintro e W' ⟨b, rfl, hr, hx, hb⟩
  exact ⟨b, rfl, hr, hid (h.ext hx.out), hid (Only.ofExt hx.out), by have := hb.out; omega⟩
theorem hb_cl (w W : World) (q g : Nat) (h : HB w W q g hB2 hT2 hD1) : Calls Try.prog 72 #[.pointer (some ⟨q, 0, none⟩), .int .i64 1] W fun e W' => e = .returned (.bool true) ∧ Hid (HB w W' q g hB2 hT2 hD2) ∧ Hid (Only (· = g) W W') := by
  refine (tclean_yes q g 2 _ _ _ W h.1 1 (by decide) (by rfl)).mono ?_
  rintro e W' ⟨rfl, hm, hx⟩
  exact ⟨rfl, hid (h.only hx.out hm.out), hx⟩
theorem hb_tg (w W : World) (q g : Nat) (h : HB w W q g hB2 hT2 hD2) : Calls Try.prog 33 #[.pointer (some ⟨q, 0, none⟩)] W fun e W' => ∃ A ca, e = .returned (.slice A 0 ca) ∧ Hid (HB w W' q g hB2 hT2 hD2) := by
  refine (ttags_ q g 2 _ _ _ W h.1).mono ?_
  rw [show (whichN hT2 (16 * 2)).length = 0 from by rfl]
  rintro e W' ⟨A, ca, rfl, _, hx, _⟩
  exact ⟨A, ca, rfl, hid (h.ext hx.out)⟩
theorem hb_dr (w W : World) (q g : Nat) (h : HB w W q g hB2 hT2 hD2) : Calls Try.prog 35 #[.pointer (some ⟨q, 0, none⟩)] W fun e W' => ∃ A ca, e = .returned (.slice A 0 ca) ∧ Hid (HB w W' q g hB2 hT2 hD2) := by
  refine (tdirty_ q g 2 _ _ _ W h.1).mono ?_
  rw [show (whichN hD2 2).length = 0 from by rfl]
  rintro e W' ⟨A, ca, rfl, _, hx, _⟩
  exact ⟨A, ca, rfl, hid (h.ext hx.out)⟩
theorem hb_sz (w W : World) (q g : Nat) (h : HB w W q g hB2 hT2 hD2) : Calls Try.prog 63 #[.pointer (some ⟨q, 0, none⟩)] W fun e W' => e = .returned (.int .i64 512) ∧ Hid (HB w W' q g hB2 hT2 hD2) := by
  refine (tsize_ q g 2 _ _ _ W h.1).mono ?_
  rintro e W' ⟨rfl, rfl⟩
  exact ⟨rfl, hid h⟩
theorem hb_sp (w W : World) (q g : Nat) (h : HB w W q g hB2 hT2 hD2) : Calls Try.prog 71 #[.pointer (some ⟨q, 0, none⟩), .int .i64 256] W fun e W' => e = .returned (.bool false) ∧ Hid (HB w W' q g hB2 hT2 hD2) := by
  refine (tstrip_no1 q g 2 _ _ _ W h.1 256 1 0 (by decide) (by decide) (by decide) (by rfl)).mono ?_
  rintro e W' ⟨rfl, rfl⟩
  exact ⟨rfl, hid h⟩
/-- A block of cells, as it lies. -/
def CapB (W : World) (b : Nat) (l : List Value) : Prop := b < W.heap.size ∧ ∀ j v, l[j]? = some v → W.cell? ⟨b, j, none⟩ = some v
theorem CapB.only {S : Nat → Prop} {W W' : World} {b : Nat} {l : List Value} (h : CapB W b l) (x : Only S W W') (hn : ¬ S b) : CapB W' b l := ⟨Nat.lt_of_lt_of_le h.1 x.size, fun j v hj => (x.cells b j h.1 hn).trans (h.2 j v hj)⟩
theorem CapB.ext {W W' : World} {b : Nat} {l : List Value} (h : CapB W b l) (x : Ext W W') : CapB W' b l := h.only (S := fun _ => False) (Only.ofExt x) id
theorem CapB.new (w : World) (cs : Array Value) (t : TypeId) : CapB (w.alloc (.cells cs t)) w.heap.size cs.toList := ⟨by simp, fun j v hj => by simp [go_sem]; simpa using hj⟩
end Go.Proofs.Ythamfkbopjagdaa

namespace Go.Proofs.Ythamfkbopjagdaa
set_option maxRecDepth 100000
set_option linter.unusedSimpArgs false
set_option linter.unusedVariables false
open Go.RowKit

theorem run_strN {P : Program} (w : World) (src dst e : TypeId) (hs : P.underlying src = some (.slice e)) (he : P.underlying e = some (.int .u8)) (hd : P.underlying dst = some .string) (A : Option Addr) (c : Nat) (ns : List Int) (n : Nat) (hn : ns.length = n)
    (h : RdB w A ns) (h0 : ns = [] → A = none) : (convert src dst (.slice A n c)).run P w = .ok (.string (strOf ns)) w := by
  subst hn
  exact run_str_any w src dst e hs he hd A c ns h h0
theorem rd3 (w : World) (t : TypeId) : RdB (w.alloc (.cells #[.int .u8 1, .int .u8 2, .int .u8 3] t)) (some ⟨w.heap.size, 0, none⟩) [1, 2, 3] := fun _ => ⟨w.heap.size, 0, rfl, by simp, fun j hj => (Row.new w #[.int .u8 1, .int .u8 2, .int .u8 3] t).range j _ (match j, hj with | 0, _ => rfl | 1, _ => rfl | 2, _ => rfl)⟩
theorem wp_gen {P : Program} {a : Act} {Q : Exit → Act → World → Prop} {c : Code} {w : World} (I : World → Prop) (hI : I w) (h : ∀ w', I w' → c.wp P Q a w') : c.wp P Q a w := h w hI
end Go.Proofs.Ythamfkbopjagdaa

namespace Go.Proofs.Ythamfkbopjagdaa
set_option maxRecDepth 100000
set_option linter.unusedSimpArgs false
set_option linter.unusedVariables false
open Go.RowKit

/-- What comes in as a capability. -/
def capL (c : Cap) : List Value := [.bool c.tag, .int .i64 c.base, .int .i64 c.top, .int .i64 c.at_, .int .i64 c.perms, .int .i64 c.type]
def wfC (c : Cap) : Prop := (Lit.int .i64 c.base).wf = true ∧ (Lit.int .i64 c.top).wf = true ∧ (Lit.int .i64 c.at_).wf = true ∧ (Lit.int .i64 c.perms).wf = true ∧ (Lit.int .i64 c.type).wf = true
/-- A call. -/
structure TOp where
  what : Int
  at_ : Int
  A : Option Addr
  bl : List Int
  ca : Nat
  c : Cap
  n : Int
instance : Inhabited TOp := ⟨⟨0, 0, none, [], 0, ⟨false, 0, 0, 0, 0, 0⟩, 0⟩⟩
def TOp.cells (z : TOp) : List Value := [.int .i64 z.what, .int .i64 z.at_, .slice z.A z.bl.length z.ca, .bool z.c.tag, .int .i64 z.c.base, .int .i64 z.c.top, .int .i64 z.c.at_, .int .i64 z.c.perms, .int .i64 z.c.type, .int .i64 z.n]
def TOp.good (w : World) (z : TOp) : Prop := (Lit.int .i64 z.what).wf = true ∧ (Lit.int .i64 z.at_).wf = true ∧ (z.bl.length ≤ z.ca ∧ z.ca ≤ maxLen ∧ RdB w z.A z.bl ∧ byteL z.bl) ∧ wfC z.c ∧ (Lit.int .i64 z.n).wf = true
open Go.ChangeShapes Go.WideShapes Go.ChangeAt Go.RowKit Go.Deep
section
variable {H : Type} {enc : TypeId × Value → H} {w : World} {base : Nat} {spare : Nat → Bool} {held : Bool} {fuel : Nat} {cs : List Value} {x : DataW H × List MemPlace}

theorem trodSlice {P : Program} {α : Type} [Inhabited α] {t e : TypeId} {n : Nat} (f : α → List Value) (good : α → Prop) (ht : P.underlying t = some (.slice e)) (hc : P.cellsOf e = n) (hn : 0 < n)
    (hx : ∀ (m : Nat) (cs : List Value) (x : DataW H × List MemPlace), DataW.trod enc P w base spare held m e cs = some x → ∃ z, cs = f z ∧ good z)
    (h : DataW.trod enc P w base spare held fuel t cs = some x) :
    ∃ (A : Option Addr) (cap : Nat) (zs : List α), cs = [.slice A zs.length cap] ∧ zs.length ≤ cap ∧ cap ≤ maxLen ∧ SlAtN w A n (zs.map f) ∧ ∀ z ∈ zs, good z := by
  rcases open_slice ht h with ⟨rfl, _⟩ | ⟨a, len, cap, m, n', D, Pl, rfl, _, hl, hm, hmm, _, hg⟩
  · exact ⟨none, 0, [], rfl, by simp, by simp, fun h => absurd h (by simp), by simp⟩
  · have hlm : len ≤ m := by rw [hmm]; split <;> omega
    rw [hc] at hg
    obtain ⟨V, hV⟩ := choose_lt (n := len) (α := α) (p := fun i z => good z ∧ (f z).length = n ∧ ∀ j, j < n → w.cell? ((a.add (i * n)).add j) = (f z)[j]?) (fun i hi => by
      obtain ⟨cs', h1, h2⟩ := hg i (by omega)
      obtain ⟨_, hlen, hcell⟩ := World.cells?_some h1
      obtain ⟨z, rfl, hz⟩ := hx _ _ _ h2
      exact ⟨z, hz, hlen, hcell⟩)
    refine ⟨some a, cap, (List.range len).map V, by simp, by simpa using hl, hm, ?_, ?_⟩
    · intro h0
      have hlen0 : 0 < len := by simpa using h0
      obtain ⟨_, hl0, hc0⟩ := hV 0 hlen0
      have hc00 := hc0 0 hn
      obtain ⟨b, o, sp⟩ := a
      have hsome : ((f (V 0))[0]?).isSome = true := by simp [hl0, hn]
      rw [← hc00] at hsome
      have hsp : sp = none := by
        cases sp with
        | none => rfl
        | some x =>
          simp [Addr.add, World.cell?] at hsome
          split at hsome <;> simp at hsome
      subst hsp
      have hb : b < w.heap.size := by
        simp [Addr.add, World.cell?] at hsome
        split at hsome
        · rename_i h
          exact (Array.getElem?_eq_some_iff.1 h).1
        · simp at hsome
      refine ⟨b, o, rfl, hb, fun i hi j hj => ?_⟩
      have hi' : i < len := by simpa using hi
      have := (hV i hi').2.2 j hj
      rw [Addr.add_lit, Addr.add_lit] at this
      rw [this]
      simp
    · intro z hz
      obtain ⟨i, hi, rfl⟩ := List.mem_map.1 hz
      exact (hV i (by simpa using hi)).1
theorem trodArgSlice {P : Program} {α : Type} [Inhabited α] {r : Reach} {b0 : Nat} {t e : TypeId} {n : Nat} (f : α → List Value) (good : α → Prop) (ht : P.underlying t = some (.slice e)) (hc : P.cellsOf e = n) (hn : 0 < n)
    (hx : ∀ (m : Nat) (cs : List Value) (x : DataW H × List MemPlace), DataW.trod enc P w base spare held m e cs = some x → ∃ z, cs = f z ∧ good z) {v : Value} {d : DataW H} {p : List MemPlace}
    (hv : Value.okWide P w r b0 t v) (h : DataW.Trod enc P w base spare held t v d p) :
    ∃ (A : Option Addr) (cap : Nat) (zs : List α), v = .slice A zs.length cap ∧ zs.length ≤ cap ∧ cap ≤ maxLen ∧ SlAtN w A n (zs.map f) ∧ ∀ z ∈ zs, good z := by
  obtain ⟨a0, len, cap, rfl⟩ := okWide_slice ht hv
  obtain ⟨fuel, hf⟩ := h
  obtain ⟨A, cap', zs, hcs, h1, h2, h3, h4⟩ := trodSlice f good ht hc hn hx hf
  simp [Value.cells] at hcs
  obtain ⟨rfl, rfl, rfl⟩ := hcs
  exact ⟨_, _, zs, rfl, h1, h2, h3, h4⟩
theorem trodCap (h : DataW.trod enc Try.prog w base spare held fuel 24 cs = some x) : ∃ c : Cap, cs = capL c ∧ wfC c := by
  obtain ⟨xs, n, _, _, hcl, hlen, hg⟩ := DataW.trod_struct Try.underlying24 h
  have hl : cs.length = 6 := hcl.trans (by kernel_rfl)
  have z0 : Try.prog.cellsOf 4 = 1 := by kernel_rfl
  have z1 : Try.prog.cellsOf 3 = 1 := by kernel_rfl
  match cs, hl with
  | [c0, c1, c2, c3, c4, c5], _ =>
    have g0 : DataW.trod enc Try.prog w base spare held n 4 (([c0, c1, c2, c3, c4, c5].drop 0).take (Try.prog.cellsOf 4)) = xs[0]? := hg 0 _ rfl
    rw [z0, List.getElem?_eq_getElem (by rw [hlen]; decide)] at g0
    have g1 : DataW.trod enc Try.prog w base spare held n 3 (([c0, c1, c2, c3, c4, c5].drop 1).take (Try.prog.cellsOf 3)) = xs[1]? := hg 1 _ rfl
    rw [z1, List.getElem?_eq_getElem (by rw [hlen]; decide)] at g1
    have g2 : DataW.trod enc Try.prog w base spare held n 3 (([c0, c1, c2, c3, c4, c5].drop 2).take (Try.prog.cellsOf 3)) = xs[2]? := hg 2 _ rfl
    rw [z1, List.getElem?_eq_getElem (by rw [hlen]; decide)] at g2
    have g3 : DataW.trod enc Try.prog w base spare held n 3 (([c0, c1, c2, c3, c4, c5].drop 3).take (Try.prog.cellsOf 3)) = xs[3]? := hg 3 _ rfl
    rw [z1, List.getElem?_eq_getElem (by rw [hlen]; decide)] at g3
    have g4 : DataW.trod enc Try.prog w base spare held n 3 (([c0, c1, c2, c3, c4, c5].drop 4).take (Try.prog.cellsOf 3)) = xs[4]? := hg 4 _ rfl
    rw [z1, List.getElem?_eq_getElem (by rw [hlen]; decide)] at g4
    have g5 : DataW.trod enc Try.prog w base spare held n 3 (([c0, c1, c2, c3, c4, c5].drop 5).take (Try.prog.cellsOf 3)) = xs[5]? := hg 5 _ rfl
    rw [z1, List.getElem?_eq_getElem (by rw [hlen]; decide)] at g5
    obtain ⟨t, e0, _⟩ := DataW.trod_bool Try.underlying4 g0
    obtain ⟨b, e1, _, k1⟩ := DataW.trod_int Try.underlying3 g1
    obtain ⟨tp, e2, _, k2⟩ := DataW.trod_int Try.underlying3 g2
    obtain ⟨a, e3, _, k3⟩ := DataW.trod_int Try.underlying3 g3
    obtain ⟨p, e4, _, k4⟩ := DataW.trod_int Try.underlying3 g4
    obtain ⟨ty, e5, _, k5⟩ := DataW.trod_int Try.underlying3 g5
    simp at e0 e1 e2 e3 e4 e5
    subst e0
    subst e1
    subst e2
    subst e3
    subst e4
    subst e5
    exact ⟨⟨t, b, tp, a, p, ty⟩, rfl, k1, k2, k3, k4, k5⟩

theorem trodBytes (h : DataW.trod enc Try.prog w base spare held fuel 39 cs = some x) : ∃ (A : Option Addr) (ca : Nat) (bl : List Int), cs = [.slice A bl.length ca] ∧ bl.length ≤ ca ∧ ca ≤ maxLen ∧ RdB w A bl ∧ byteL bl := by
  obtain ⟨A, cap, zs, rfl, h1, h2, h3, h4⟩ := trodSlice (α := Int) (n := 1) (fun z => [Value.int .u8 z]) (fun z => 0 ≤ z ∧ z ≤ 255) Try.underlying39 (by kernel_rfl) (by omega) (fun m cs x hx => by
    obtain ⟨a, e, _, k⟩ := DataW.trod_int Try.underlying5 hx
    refine ⟨a, e, ?_⟩
    simpa [Lit.wf, IntKind.min, IntKind.max, IntKind.signed, IntKind.bits] using k) h
  refine ⟨A, cap, zs, rfl, h1, h2, fun h0 => ?_, h4⟩
  obtain ⟨b, o, hA, hb, hc⟩ := h3 (by simpa using h0)
  refine ⟨b, o, hA, hb, fun j hj => ?_⟩
  have := hc j (by simpa using hj) 0 (by omega)
  simpa using this
theorem trodTOp (h : DataW.trod enc Try.prog w base spare held fuel 41 cs = some x) : ∃ z : TOp, cs = z.cells ∧ z.good w := by
  obtain ⟨xs, n, _, _, hcl, hlen, hg⟩ := DataW.trod_struct Try.underlying41 h
  have hl : cs.length = 10 := hcl.trans (by kernel_rfl)
  have z0 : Try.prog.cellsOf 24 = 6 := by kernel_rfl
  have z1 : Try.prog.cellsOf 3 = 1 := by kernel_rfl
  have z2 : Try.prog.cellsOf 39 = 1 := by kernel_rfl
  match cs, hl with
  | [c0, c1, c2, c3, c4, c5, c6, c7, c8, c9], _ =>
    have g0 : DataW.trod enc Try.prog w base spare held n 3 (([c0, c1, c2, c3, c4, c5, c6, c7, c8, c9].drop 0).take (Try.prog.cellsOf 3)) = xs[0]? := hg 0 _ rfl
    rw [z1, List.getElem?_eq_getElem (by rw [hlen]; decide)] at g0
    have g1 : DataW.trod enc Try.prog w base spare held n 3 (([c0, c1, c2, c3, c4, c5, c6, c7, c8, c9].drop 1).take (Try.prog.cellsOf 3)) = xs[1]? := hg 1 _ rfl
    rw [z1, List.getElem?_eq_getElem (by rw [hlen]; decide)] at g1
    have g2 : DataW.trod enc Try.prog w base spare held n 39 (([c0, c1, c2, c3, c4, c5, c6, c7, c8, c9].drop 2).take (Try.prog.cellsOf 39)) = xs[2]? := hg 2 _ rfl
    rw [z2, List.getElem?_eq_getElem (by rw [hlen]; decide)] at g2
    have g3 : DataW.trod enc Try.prog w base spare held n 24 (([c0, c1, c2, c3, c4, c5, c6, c7, c8, c9].drop 3).take (Try.prog.cellsOf 24)) = xs[3]? := hg 3 _ rfl
    rw [z0, List.getElem?_eq_getElem (by rw [hlen]; decide)] at g3
    have g4 : DataW.trod enc Try.prog w base spare held n 3 (([c0, c1, c2, c3, c4, c5, c6, c7, c8, c9].drop 9).take (Try.prog.cellsOf 3)) = xs[4]? := hg 4 _ rfl
    rw [z1, List.getElem?_eq_getElem (by rw [hlen]; decide)] at g4
    obtain ⟨what, e0, _, k0⟩ := DataW.trod_int Try.underlying3 g0
    obtain ⟨at_, e1, _, k1⟩ := DataW.trod_int Try.underlying3 g1
    obtain ⟨A, ca, bl, e2, k2⟩ := trodBytes g2
    obtain ⟨c, e3, k3⟩ := trodCap g3
    obtain ⟨nn, e4, _, k4⟩ := DataW.trod_int Try.underlying3 g4
    simp [capL] at e0 e1 e2 e3 e4
    subst e0
    subst e1
    subst e2
    obtain ⟨rfl, rfl, rfl, rfl, rfl, rfl⟩ := e3
    subst e4
    exact ⟨⟨what, at_, A, bl, ca, c, nn⟩, rfl, k0, k1, k2, k3, k4⟩
end
theorem TOp.len (z : TOp) : z.cells.length = 10 := rfl
theorem TOp.facts {w : World} {A : Option Addr} {zs : List TOp} (h : SlAtN w A 10 (zs.map TOp.cells)) {k : Nat} (hk : k < zs.length) (z : TOp) (hz : zs[k] = z) : ∃ b o, A = some ⟨b, o, none⟩ ∧ b < w.heap.size ∧ w.rangeAt b (o + k * 10) z.cells := by
  obtain ⟨b, o, hA, hb, hc⟩ := h (by simpa using Nat.lt_of_le_of_lt (Nat.zero_le _) hk)
  have hc := hc k (by simpa using hk)
  simp only [List.getElem_map, hz] at hc
  refine ⟨b, o, hA, hb, fun j v hj => ?_⟩
  have hlt : j < 10 := by have := (List.getElem?_eq_some_iff.1 hj).1; rwa [TOp.len] at this
  rw [hc j hlt, hj]
theorem wf_i64 {x : Int} (h : (Lit.int .i64 x).wf = true) : -9223372036854775808 ≤ x ∧ x ≤ 9223372036854775807 := by
  simpa [Lit.wf, IntKind.min, IntKind.max, IntKind.signed, IntKind.bits] using h
theorem rg_only {S : Nat → Prop} {w w' : World} {b o : Nat} {cs : List Value} (h : w.rangeAt b o cs) (hb : b < w.heap.size) (x : Only S w w') (hn : ¬ S b) : w'.rangeAt b o cs :=
  fun j v hj => (x.cells b _ hb hn).trans (h j v hj)
theorem rg_ext {w w' : World} {b o : Nat} {cs : List Value} (h : w.rangeAt b o cs) (hb : b < w.heap.size) (x : Ext w w') : w'.rangeAt b o cs :=
  rg_only h hb (Only.ofExt (S := fun _ => False) x) id
/-- What Great tells. -/
def GreatIs (n : Nat) (w : World) (e : Ending) (w' : World) : Prop := ∃ b, e = .returned (.bool b) ∧ Ext w w' ∧ Hid (b = false → n ≤ 200)
set_option maxRecDepth 100000 in
set_option maxHeartbeats 4000000 in
theorem great_ (A : Option Addr) (cap : Nat) (zs : List TOp) (w : World) (wl : zs.length ≤ maxLen) (hs : SlAtN w A 10 (zs.map TOp.cells)) : Calls Try.prog 39 #[.slice A zs.length cap] w fun e w' => GreatIs zs.length w e w' := by
  have HS := hid hs
  have hmx : zs.length ≤ 9223372036854775807 := Nat.le_trans wl (by unfold maxLen; omega)
  obtain ⟨m, hm⟩ : ∃ m, zs.length = m := ⟨_, rfl⟩
  have HM := hid hm
  rw [hm] at hmx ⊢
  clear hs wl hm
  go_enter Try.func39, Try.ntmps39
  go_wp2
  go_loopw [3, 4] (fun v i wr => ∃ (k n : Nat), k ≤ m ∧ v = .int .i64 n ∧ i = .int .i64 k ∧ (m ≤ n ∧ (n ≤ 18000 ∨ n = m)) ∧ Ext w wr) (fun _ i _ => m - (intOf i).toNat)
  case atStart => exact ⟨0, m, Nat.zero_le _, rfl, rfl, ⟨Nat.le_refl _, .inr rfl⟩, Ext.refl _⟩
  case round =>
    obtain ⟨k, n, hk, rfl, rfl, ⟨hn1, hn2⟩, hx⟩ := hrel
    have hk0 : (0 : Int) ≤ (k : Int) := by omega
    by_cases hlt : k < m
    · have hk1 : (k : Int) < (m : Int) := by omega
      by_cases hn9 : n < 9000
      · have hn9' : (n : Int) < 9000 := by omega
        obtain ⟨z, hz⟩ : ∃ z, zs[k]'(by rw [HM.out]; exact hlt) = z := ⟨_, rfl⟩
        obtain ⟨b, o, rfl, hb, hc⟩ := TOp.facts HS.out (by rw [HM.out]; exact hlt) z hz
        have c2 : wr.cell? ⟨b, o + k * 10 + 2, none⟩ = some (.slice z.A z.bl.length z.ca) := (rg_ext hc hb hx) 2 _ rfl
        have hbr := Nat.lt_of_lt_of_le hb hx.size
        clear hz hc
        generalize z.bl.length = d at c2
        generalize z.ca = dc at c2
        generalize z.A = dA at c2
        by_cases hd : d ≤ 9000
        · have hd1 : (d : Int) ≤ 9000 := by omega
          have hd2 : ¬ (9000 : Int) < (d : Int) := by omega
          go_wp2
          go_roundw
          case rel => exact ⟨k + 1, n + d, by omega, by go_num, by go_num, by omega, (by repeat (first | (with_reducible exact Ext.refl _) | (with_reducible refine Ext.undrew ?_) | (with_reducible refine Ext.grow ?_ _) | (with_reducible refine Ext.drew ?_) | (with_reducible refine Ext.drewN ?_ _) | (with_reducible refine Ext.alloc ?_ _) | (with_reducible assumption) | ((with_reducible refine Ext.setCell ?_ ?_ _); rotate_left; (first | exact Nat.le_refl _ | ((try dsimp only); (try simp only [World.size_alloc, grow_size, World.size_setCell]); omega)))))⟩
          case measure => simp [intOf]; omega
        · have hd1 : ¬ (d : Int) ≤ 9000 := by omega
          have hd2 : (9000 : Int) < (d : Int) := by omega
          go_wp2
          go_roundw
          case rel => exact ⟨k + 1, n + 9000, by omega, by go_num, by go_num, by omega, (by repeat (first | (with_reducible exact Ext.refl _) | (with_reducible refine Ext.undrew ?_) | (with_reducible refine Ext.grow ?_ _) | (with_reducible refine Ext.drew ?_) | (with_reducible refine Ext.drewN ?_ _) | (with_reducible refine Ext.alloc ?_ _) | (with_reducible assumption) | ((with_reducible refine Ext.setCell ?_ ?_ _); rotate_left; (first | exact Nat.le_refl _ | ((try dsimp only); (try simp only [World.size_alloc, grow_size, World.size_setCell]); omega)))))⟩
          case measure => simp [intOf]; omega
      · have hn9' : ¬ (n : Int) < 9000 := by omega
        have hn8 : (9000 : Int) ≤ (n : Int) := by omega
        go_wp2
        go_ret
        exact ⟨_, rfl, (by repeat (first | (with_reducible exact Ext.refl _) | (with_reducible refine Ext.undrew ?_) | (with_reducible refine Ext.grow ?_ _) | (with_reducible refine Ext.drew ?_) | (with_reducible refine Ext.drewN ?_ _) | (with_reducible refine Ext.alloc ?_ _) | (with_reducible assumption) | ((with_reducible refine Ext.setCell ?_ ?_ _); rotate_left; (first | exact Nat.le_refl _ | ((try dsimp only); (try simp only [World.size_alloc, grow_size, World.size_setCell]); omega))))), hid (fun h => by cases h)⟩
    · obtain rfl : k = m := by omega
      have hk1 : ¬ (k : Int) < (k : Int) := by omega
      by_cases hn9 : n < 9000
      · have hn8 : ¬ (9000 : Int) ≤ (n : Int) := by omega
        go_wp2
        go_ret
        exact ⟨_, rfl, (by repeat (first | (with_reducible exact Ext.refl _) | (with_reducible refine Ext.undrew ?_) | (with_reducible refine Ext.grow ?_ _) | (with_reducible refine Ext.drew ?_) | (with_reducible refine Ext.drewN ?_ _) | (with_reducible refine Ext.alloc ?_ _) | (with_reducible assumption) | ((with_reducible refine Ext.setCell ?_ ?_ _); rotate_left; (first | exact Nat.le_refl _ | ((try dsimp only); (try simp only [World.size_alloc, grow_size, World.size_setCell]); omega))))), hid (by intro h; have h := of_decide_eq_false h; omega)⟩
      · have hn8 : (9000 : Int) ≤ (n : Int) := by omega
        go_wp2
        go_ret
        exact ⟨_, rfl, (by repeat (first | (with_reducible exact Ext.refl _) | (with_reducible refine Ext.undrew ?_) | (with_reducible refine Ext.grow ?_ _) | (with_reducible refine Ext.drew ?_) | (with_reducible refine Ext.drewN ?_ _) | (with_reducible refine Ext.alloc ?_ _) | (with_reducible assumption) | ((with_reducible refine Ext.setCell ?_ ?_ _); rotate_left; (first | exact Nat.le_refl _ | ((try dsimp only); (try simp only [World.size_alloc, grow_size, World.size_setCell]); omega))))), hid (fun h => by cases h)⟩
end Go.Proofs.Ythamfkbopjagdaa

namespace Go.Proofs.Ythamfkbopjagdaa
set_option maxRecDepth 100000
set_option linter.unusedSimpArgs false
set_option linter.unusedVariables false
open Go.RowKit

/-- A memory that was made behind a world. -/
def HM (w W : World) (q g n : Nat) (B : Nat → Int) (T D : Nat → Bool) : Prop := Mm W q g n B T D ∧ Ext w W ∧ w.heap.size ≤ g ∧ w.heap.size ≤ q
theorem HM.ext {w W W' : World} {q g n : Nat} {B : Nat → Int} {T D : Nat → Bool} (h : HM w W q g n B T D) (x : Ext W W') : HM w W' q g n B T D := ⟨h.1.ext x, h.2.1.trans x, h.2.2⟩
theorem HM.upd {w W W' : World} {q g n : Nat} {B B' : Nat → Int} {T D T' D' : Nat → Bool} (h : HM w W q g n B T D) (x : Only (· = g) W W') (hm : Mm W' q g n B' T' D') : HM w W' q g n B' T' D' := ⟨hm, Ext.only h.2.1 x (by rintro i rfl; exact h.2.2.1), h.2.2⟩
theorem HM.only {S : Nat → Prop} {w W W' : World} {q g n : Nat} {B : Nat → Int} {T D : Nat → Bool} (h : HM w W q g n B T D) (x : Only S W W') (hq : ¬ S q) (hg : ¬ S g) (hs : ∀ i, S i → w.heap.size ≤ i) : HM w W' q g n B T D := ⟨h.1.only x hq hg, Ext.only h.2.1 x hs, h.2.2⟩
def StIs (w W W' : World) (q g n : Nat) (B : Nat → Int) (T D : Nat → Bool) (x : Int) (l : List Int) (e : Ending) : Prop := ∃ a : Nat, x = (a : Int) ∧ e = .returned (.bool true) ∧ Hid (HM w W' q g n (putB B a l) (clrT T a l.length) D) ∧ Hid (Only (· = g) W W')
def ScIs (w W W' : World) (q g n : Nat) (B : Nat → Int) (T D : Nat → Bool) (x : Int) (c : Cap) (e : Ending) : Prop := ∃ p i : Nat, p < n ∧ i < 16 ∧ x = 256 * (p : Int) + 16 * (i : Int) ∧ e = .returned (.bool true) ∧ Hid (HM w W' q g n (putB B (256 * p + 16 * i) (bytesC c)) (upd1 T (16 * p + i) c.tag) (upd1 D p (D p || c.tag))) ∧ Hid (Only (· = g) W W')
def StrIs (w W W' : World) (q g n : Nat) (B : Nat → Int) (T D : Nat → Bool) (x : Int) (e : Ending) : Prop := ∃ b, e = .returned (.bool b) ∧ Hid (Only (· = g) W W') ∧ ((b = false ∧ Hid (HM w W' q g n B T D) ∧ (¬ placeP n x ∨ ∃ p i : Nat, p < n ∧ i < 16 ∧ x = 256 * (p : Int) + 16 * (i : Int) ∧ T (16 * p + i) = false)) ∨ (b = true ∧ ∃ p i : Nat, p < n ∧ i < 16 ∧ x = 256 * (p : Int) + 16 * (i : Int) ∧ T (16 * p + i) = true ∧ Hid (HM w W' q g n B (upd1 T (16 * p + i) false) D)))
def ClIs (w W W' : World) (q g n : Nat) (B : Nat → Int) (T D : Nat → Bool) (x : Int) (e : Ending) : Prop := ∃ b, e = .returned (.bool b) ∧ Hid (Only (· = g) W W') ∧ ((b = false ∧ Hid (HM w W' q g n B T D) ∧ (x < 0 ∨ (n : Int) ≤ x ∨ ∃ p : Nat, p < n ∧ x = (p : Int) ∧ anyB (fun j => T (16 * p + j)) = true)) ∨ (b = true ∧ ∃ p : Nat, p < n ∧ x = (p : Int) ∧ anyB (fun j => T (16 * p + j)) = false ∧ Hid (HM w W' q g n B T (upd1 D p false))))
theorem placeP_parts {n : Nat} {x : Int} (h : placeP n x) : ∃ p i : Nat, p < n ∧ i < 16 ∧ x = 256 * (p : Int) + 16 * (i : Int) := by
  obtain ⟨h1, h2, h3⟩ := h
  exact ⟨(x / 256).toNat, (x % 256 / 16).toNat, by omega, by omega, by omega⟩
theorem hNew (n : Nat) (k : Int) (hk : k = (n : Int)) (w : World) (h1 : 1 ≤ n) (h2 : n ≤ 65536) : Calls Try.prog 9 #[.int .i64 k] w fun e w' => ∃ q, e = .returned (.pointer (some ⟨q, 0, none⟩)) ∧ ∃ g, Hid (HM w w' q g n (fun _ => 0) (fun _ => false) (fun _ => false)) := by
  subst hk
  refine (tnew_ n w h1 h2).mono ?_
  rintro e w' ⟨q, rfl, g, hm, hx, hq, hg⟩
  exact ⟨q, rfl, g, hid ⟨hm.out, hx.out, hg, hq⟩⟩
theorem hLoad (w W : World) (q g n : Nat) (B : Nat → Int) (T D : Nat → Bool) (h : HM w W q g n B T D) (x y : Int) (a m : Nat) (hx : x = (a : Int)) (hy : y = (m : Int)) (hfit : a + m ≤ 256 * n) : Calls Try.prog 44 #[.pointer (some ⟨q, 0, none⟩), .int .i64 x, .int .i64 y] W fun e W' => ∃ b, e = .returned (.tuple #[.slice (some ⟨b, 0, none⟩) m m, .bool true]) ∧ Hid (RdB W' (some ⟨b, 0, none⟩) (bytesAt B a m)) ∧ Hid (HM w W' q g n B T D) ∧ Hid (Ext W W') ∧ Hid (W.heap.size ≤ b ∧ b < W'.heap.size) := by
  subst hx hy
  refine (tload_yes q g n B T D W h.1 a m hfit).mono ?_
  rintro e W' ⟨b, rfl, hr, hx, hb⟩
  exact ⟨b, rfl, hr, hid (h.ext hx.out), hx, hb⟩
theorem hTags (w W : World) (q g n : Nat) (B : Nat → Int) (T D : Nat → Bool) (h : HM w W q g n B T D) (tl : List Nat) (k : Nat) (hl : (whichN T (16 * n)).map (16 * ·) = tl) (hk : tl.length = k) : Calls Try.prog 33 #[.pointer (some ⟨q, 0, none⟩)] W fun e W' => ∃ A ca, e = .returned (.slice A k ca) ∧ Hid (RdN W' A tl) ∧ Hid (HM w W' q g n B T D) ∧ Hid (Ext W W') ∧ Hid (∀ b o, A = some ⟨b, o, none⟩ → W.heap.size ≤ b) := by
  subst hl
  subst hk
  rw [List.length_map]
  refine (ttags_ q g n B T D W h.1).mono ?_
  rintro e W' ⟨A, ca, rfl, hr, hx, hb⟩
  exact ⟨A, ca, rfl, hr, hid (h.ext hx.out), hx, hb⟩
theorem hDirty (w W : World) (q g n : Nat) (B : Nat → Int) (T D : Nat → Bool) (h : HM w W q g n B T D) (tl : List Nat) (k : Nat) (hl : whichN D n = tl) (hk : tl.length = k) : Calls Try.prog 35 #[.pointer (some ⟨q, 0, none⟩)] W fun e W' => ∃ A ca, e = .returned (.slice A k ca) ∧ Hid (RdN W' A tl) ∧ Hid (HM w W' q g n B T D) ∧ Hid (Ext W W') ∧ Hid (∀ b o, A = some ⟨b, o, none⟩ → W.heap.size ≤ b) := by
  subst hl
  subst hk
  refine (tdirty_ q g n B T D W h.1).mono ?_
  rintro e W' ⟨A, ca, rfl, hr, hx, hb⟩
  exact ⟨A, ca, rfl, hr, hid (h.ext hx.out), hx, hb⟩
theorem hStYes (w W : World) (q g n : Nat) (B : Nat → Int) (T D : Nat → Bool) (h : HM w W q g n B T D) (x : Int) (A : Option Addr) (m ca : Nat) (l : List Int) (hm : l.length = m) (hr : RdB W A l) (hl : byteL l) (hca : m ≤ ca) (hA : 0 < m → ∀ b o, A = some ⟨b, o, none⟩ → ¬ b = g) (hs : spanP n x m) : Calls Try.prog 16 #[.pointer (some ⟨q, 0, none⟩), .int .i64 x, .slice A m ca] W fun e W' => StIs w W W' q g n B T D x l e := by
  subst hm
  obtain ⟨h0, h1, h2, h3⟩ := hs
  obtain ⟨a, rfl⟩ : ∃ a : Nat, x = (a : Int) := ⟨x.toNat, by omega⟩
  refine (tstore_yes q g n B T D W h.1 a A ca l hr hl hca (by omega) hA).mono ?_
  rintro e W' ⟨rfl, hm, hx⟩
  exact ⟨a, rfl, rfl, hid (h.upd hx.out hm.out), hx⟩
theorem hStNo (w W : World) (q g n : Nat) (B : Nat → Int) (T D : Nat → Bool) (h : HM w W q g n B T D) (x : Int) (A : Option Addr) (m ca : Nat) (hs : ¬ spanP n x m) : Calls Try.prog 16 #[.pointer (some ⟨q, 0, none⟩), .int .i64 x, .slice A m ca] W fun e W' => e = .returned (.bool false) ∧ Hid (HM w W' q g n B T D) ∧ Hid (Ext W W') := by
  refine (tstore_no q g n B T D W h.1 x A m ca hs).mono ?_
  rintro e W' ⟨rfl, rfl⟩
  exact ⟨rfl, hid h, hid (Ext.refl _)⟩
theorem hScYes (w W : World) (q g n : Nat) (B : Nat → Int) (T D : Nat → Bool) (h : HM w W q g n B T D) (x : Int) (t : Bool) (b tp at_ pm ty : Int) (hs : placeP n x) (hr : rightC ⟨t, b, tp, at_, pm, ty⟩ = true) : Calls Try.prog 18 #[.pointer (some ⟨q, 0, none⟩), .int .i64 x, .agg #[.bool t, .int .i64 b, .int .i64 tp, .int .i64 at_, .int .i64 pm, .int .i64 ty]] W fun e W' => ScIs w W W' q g n B T D x ⟨t, b, tp, at_, pm, ty⟩ e := by
  obtain ⟨p, i, hp, hi, hx⟩ := placeP_parts hs
  refine (tsc_yes q g n B T D W h.1 x p i hp hi hx t b tp at_ pm ty hr).mono ?_
  rintro e W' ⟨rfl, hm, ho⟩
  exact ⟨p, i, hp, hi, hx, rfl, hid (h.upd ho.out hm.out), ho⟩
theorem hScNo (w W : World) (q g n : Nat) (B : Nat → Int) (T D : Nat → Bool) (h : HM w W q g n B T D) (x : Int) (t : Bool) (b tp at_ pm ty : Int) (hs : ¬ (placeP n x ∧ rightC ⟨t, b, tp, at_, pm, ty⟩ = true)) : Calls Try.prog 18 #[.pointer (some ⟨q, 0, none⟩), .int .i64 x, .agg #[.bool t, .int .i64 b, .int .i64 tp, .int .i64 at_, .int .i64 pm, .int .i64 ty]] W fun e W' => e = .returned (.bool false) ∧ Hid (HM w W' q g n B T D) ∧ Hid (Ext W W') := by
  by_cases hp : placeP n x
  · refine (tsc_no2 q g n B T D W h.1 x t b tp at_ pm ty hp (Bool.eq_false_iff.2 fun hr => hs ⟨hp, hr⟩)).mono ?_
    rintro e W' ⟨rfl, hx⟩
    exact ⟨rfl, hid (h.ext hx), hid hx⟩
  · refine (tsc_no1 q g n B T D W h.1 x t b tp at_ pm ty hp).mono ?_
    rintro e W' ⟨rfl, hx⟩
    exact ⟨rfl, hid (h.ext hx), hid hx⟩
theorem hStrip (w W : World) (q g n : Nat) (B : Nat → Int) (T D : Nat → Bool) (h : HM w W q g n B T D) (x : Int) : Calls Try.prog 71 #[.pointer (some ⟨q, 0, none⟩), .int .i64 x] W fun e W' => StrIs w W W' q g n B T D x e := by
  by_cases hp : placeP n x
  · obtain ⟨p, i, hpn, hi, hx⟩ := placeP_parts hp
    cases ht : T (16 * p + i) with
    | false =>
      refine (tstrip_no1 q g n B T D W h.1 x p i hpn hi hx ht).mono ?_
      rintro e W' ⟨rfl, rfl⟩
      exact ⟨false, rfl, hid (Only.refl _ _), .inl ⟨rfl, hid h, .inr ⟨p, i, hpn, hi, hx, ht⟩⟩⟩
    | true =>
      refine (tstrip_yes q g n B T D W h.1 x p i hpn hi hx ht).mono ?_
      rintro e W' ⟨rfl, hm, ho⟩
      exact ⟨true, rfl, ho, .inr ⟨rfl, p, i, hpn, hi, hx, ht, hid (h.upd ho.out hm.out)⟩⟩
  · refine (tstrip_no2 q g n B T D W h.1 x hp).mono ?_
    rintro e W' ⟨rfl, rfl⟩
    exact ⟨false, rfl, hid (Only.refl _ _), .inl ⟨rfl, hid h, .inl hp⟩⟩
theorem hClean (w W : World) (q g n : Nat) (B : Nat → Int) (T D : Nat → Bool) (h : HM w W q g n B T D) (x : Int) : Calls Try.prog 72 #[.pointer (some ⟨q, 0, none⟩), .int .i64 x] W fun e W' => ClIs w W W' q g n B T D x e := by
  by_cases h0 : x < 0
  · refine (tclean_no1 q g n B T D W h.1 x h0).mono ?_
    rintro e W' ⟨rfl, rfl⟩
    exact ⟨false, rfl, hid (Only.refl _ _), .inl ⟨rfl, hid h, .inl h0⟩⟩
  · by_cases h1 : (n : Int) ≤ x
    · refine (tclean_no2 q g n B T D W h.1 x (by omega) h1).mono ?_
      rintro e W' ⟨rfl, rfl⟩
      exact ⟨false, rfl, hid (Only.refl _ _), .inl ⟨rfl, hid h, .inr (.inl h1)⟩⟩
    · obtain ⟨p, rfl⟩ : ∃ p : Nat, x = (p : Int) := ⟨x.toNat, by omega⟩
      have hpn : p < n := by omega
      cases ha : anyB (fun j => T (16 * p + j)) with
      | true =>
        refine (tclean_no3 q g n B T D W h.1 p hpn ha).mono ?_
        rintro e W' ⟨rfl, rfl⟩
        exact ⟨false, rfl, hid (Only.refl _ _), .inl ⟨rfl, hid h, .inr (.inr ⟨p, hpn, rfl, ha⟩)⟩⟩
      | false =>
        refine (tclean_yes q g n B T D W h.1 p hpn ha).mono ?_
        rintro e W' ⟨rfl, hm, ho⟩
        exact ⟨true, rfl, ho, .inr ⟨rfl, p, hpn, rfl, ha, hid (h.upd ho.out hm.out)⟩⟩
end Go.Proofs.Ythamfkbopjagdaa

namespace Go.Proofs.Ythamfkbopjagdaa
set_option maxRecDepth 100000
set_option linter.unusedSimpArgs false
set_option linter.unusedVariables false
open Go.RowKit

theorem wrapT {x : Int} (h0 : 0 ≤ x) (h1 : x ≤ 99999) : wrap64 x = x := by simp [wrap64]; omega
/-- What is left: a memory, and what a tag is. -/
def TgIs (w W W' : World) (q g n kk : Nat) (e : Ending) (b : Bool) (tv : Bool) : Prop := ∃ (B' : Nat → Int) (T' D' : Nat → Bool), e = .returned (.bool b) ∧ Hid (HM w W' q g n B' T' D') ∧ Hid (Only (· = g) W W') ∧ Hid (T' kk = tv)
theorem gCapYes (w W : World) (q g n : Nat) (B : Nat → Int) (T D : Nat → Bool) (h : HM w W q g n B T D) (kk : Nat) (hkk : kk < 16 * n) (x : Int) (t : Bool) (b tp at_ pm ty : Int) (hs : placeP n x) (hr : rightC ⟨t, b, tp, at_, pm, ty⟩ = true) (tv : Bool) (ht : (if x = 16 * (kk : Int) then t else T kk) = tv) : Calls Try.prog 18 #[.pointer (some ⟨q, 0, none⟩), .int .i64 x, .agg #[.bool t, .int .i64 b, .int .i64 tp, .int .i64 at_, .int .i64 pm, .int .i64 ty]] W fun e W' => TgIs w W W' q g n kk e true tv := by
  refine (hScYes w W q g n B T D h x t b tp at_ pm ty hs hr).mono ?_
  rintro e W' ⟨p, i, hp, hi, hx, rfl, hm, ho⟩
  refine ⟨_, _, _, rfl, hm, ho, hid ?_⟩
  rw [← ht]
  by_cases c : x = 16 * (kk : Int)
  · rw [if_pos c]
    obtain rfl : kk = 16 * p + i := by omega
    simp [upd1]
  · rw [if_neg c]
    have : ¬ kk = 16 * p + i := by omega
    simp [upd1, this]
theorem gStrip (w W : World) (q g n : Nat) (B : Nat → Int) (T D : Nat → Bool) (h : HM w W q g n B T D) (kk : Nat) (hkk : kk < 16 * n) (x : Int) (tv : Bool) (ht : (T kk && !decide (x = 16 * (kk : Int))) = tv) : Calls Try.prog 71 #[.pointer (some ⟨q, 0, none⟩), .int .i64 x] W fun e W' => ∃ b, TgIs w W W' q g n kk e b tv := by
  refine (hStrip w W q g n B T D h x).mono ?_
  rintro e W' ⟨b, rfl, ho, hd⟩
  refine ⟨b, ?_⟩
  rcases hd with ⟨rfl, hm, hc⟩ | ⟨rfl, p, i, hp, hi, hx, hT, hm⟩
  · refine ⟨_, _, _, rfl, hm, ho, hid ?_⟩
    rw [← ht]
    by_cases c : x = 16 * (kk : Int)
    · rcases hc with hc | ⟨p, i, hp, hi, hx, hT⟩
      · exact absurd ⟨by omega, by omega, by omega⟩ hc
      · obtain rfl : kk = 16 * p + i := by omega
        simp [hT]
    · simp [c]
  · refine ⟨_, _, _, rfl, hm, ho, hid ?_⟩
    rw [← ht]
    by_cases c : x = 16 * (kk : Int)
    · obtain rfl : kk = 16 * p + i := by omega
      simp [upd1, c]
    · have : ¬ kk = 16 * p + i := by omega
      simp [upd1, this, c]
theorem gClean (w W : World) (q g n : Nat) (B : Nat → Int) (T D : Nat → Bool) (h : HM w W q g n B T D) (kk : Nat) (hkk : kk < 16 * n) (x : Int) (tv : Bool) (ht : T kk = tv) : Calls Try.prog 72 #[.pointer (some ⟨q, 0, none⟩), .int .i64 x] W fun e W' => ∃ b, TgIs w W W' q g n kk e b tv := by
  refine (hClean w W q g n B T D h x).mono ?_
  rintro e W' ⟨b, rfl, ho, hd⟩
  refine ⟨b, ?_⟩
  rcases hd with ⟨rfl, hm, _⟩ | ⟨rfl, p, _, _, _, hm⟩
  · exact ⟨_, _, _, rfl, hm, ho, hid ht⟩
  · exact ⟨_, _, _, rfl, hm, ho, hid ht⟩
theorem gStYes (w W : World) (q g n : Nat) (B : Nat → Int) (T D : Nat → Bool) (h : HM w W q g n B T D) (kk : Nat) (hkk : kk < 16 * n) (x : Int) (A : Option Addr) (m ca : Nat) (l : List Int) (hm : l.length = m) (hr : RdB W A l) (hl : byteL l) (hca : m ≤ ca) (hA : 0 < m → ∀ b o, A = some ⟨b, o, none⟩ → ¬ b = g) (hs : spanP n x m) (tv : Bool) (ht : (T kk && !decide (0 < m ∧ x < 16 * (kk : Int) + 16 ∧ 16 * (kk : Int) < x + m)) = tv) : Calls Try.prog 16 #[.pointer (some ⟨q, 0, none⟩), .int .i64 x, .slice A m ca] W fun e W' => TgIs w W W' q g n kk e true tv := by
  refine (hStYes w W q g n B T D h x A m ca l hm hr hl hca hA hs).mono ?_
  rintro e W' ⟨a, rfl, rfl, hm', ho⟩
  refine ⟨_, _, _, rfl, hm', ho, hid ?_⟩
  rw [← ht, hm]
  unfold clrT
  congr 2
  exact decide_eq_decide.2 (by omega)
theorem gTag (w W : World) (q g n : Nat) (B : Nat → Int) (T D : Nat → Bool) (h : HM w W q g n B T D) (kk : Nat) (hkk : kk < 16 * n) (x : Int) (hx : x = 16 * (kk : Int)) (tv : Bool) (ht : T kk = tv) : Calls Try.prog 81 #[.pointer (some ⟨q, 0, none⟩), .int .i64 x] W fun e W' => e = .returned (.bool tv) ∧ W = W' := by
  subst hx
  subst ht
  have := ttag_yes q g n B T D W h.1 (16 * (kk : Int)) (kk / 16) (kk % 16) (by omega) (by omega) (by omega)
  rwa [show 16 * (kk / 16) + kk % 16 = kk by omega] at this
end Go.Proofs.Ythamfkbopjagdaa

namespace Go.Proofs.Ythamfkbopjagdaa
set_option maxRecDepth 100000
set_option linter.unusedSimpArgs false
set_option linter.unusedVariables false
open Go.RowKit

/-- What StoreCap makes of a memory, as functions. -/
def capOk (n : Nat) (x : Int) (c : Cap) : Prop := placeP n x ∧ rightC c = true
instance (n : Nat) (x : Int) (c : Cap) : Decidable (capOk n x c) := by unfold capOk placeP; infer_instance
def capB (n : Nat) (x : Int) (c : Cap) (B : Nat → Int) : Nat → Int := if capOk n x c then putB B x.toNat (bytesC c) else B
def capT (n : Nat) (x : Int) (c : Cap) (T : Nat → Bool) : Nat → Bool := if capOk n x c then upd1 T (x.toNat / 16) c.tag else T
def capD (n : Nat) (x : Int) (c : Cap) (D : Nat → Bool) : Nat → Bool := if capOk n x c then upd1 D (x.toNat / 256) (D (x.toNat / 256) || c.tag) else D
theorem hScAny (w W : World) (q g n : Nat) (B : Nat → Int) (T D : Nat → Bool) (h : HM w W q g n B T D) (x : Int) (t : Bool) (b tp at_ pm ty : Int) : Calls Try.prog 18 #[.pointer (some ⟨q, 0, none⟩), .int .i64 x, .agg #[.bool t, .int .i64 b, .int .i64 tp, .int .i64 at_, .int .i64 pm, .int .i64 ty]] W fun e W' => ∃ b', e = .returned (.bool b') ∧ Hid (HM w W' q g n (capB n x ⟨t, b, tp, at_, pm, ty⟩ B) (capT n x ⟨t, b, tp, at_, pm, ty⟩ T) (capD n x ⟨t, b, tp, at_, pm, ty⟩ D)) ∧ Hid (Only (· = g) W W') := by
  by_cases hs : capOk n x ⟨t, b, tp, at_, pm, ty⟩
  · unfold capB capT capD
    rw [if_pos hs, if_pos hs, if_pos hs]
    refine (hScYes w W q g n B T D h x t b tp at_ pm ty hs.1 hs.2).mono ?_
    rintro e W' ⟨p, i, hp, hi, hx, rfl, hm, ho⟩
    rw [show x.toNat = 256 * p + 16 * i by omega, show (256 * p + 16 * i) / 16 = 16 * p + i by omega, show (256 * p + 16 * i) / 256 = p by omega]
    exact ⟨true, rfl, hm, ho⟩
  · unfold capB capT capD
    rw [if_neg hs, if_neg hs, if_neg hs]
    refine (hScNo w W q g n B T D h x t b tp at_ pm ty hs).mono ?_
    rintro e W' ⟨rfl, hm, hx⟩
    exact ⟨false, rfl, hm, hid (Only.ofExt hx.out)⟩
/-- Two memories side by side. -/
structure TW (w W : World) (q g r s n : Nat) (B : Nat → Int) (T D : Nat → Bool) (B2 : Nat → Int) (T2 D2 : Nat → Bool) : Prop where
  h1 : HM w W q g n B T D
  h2 : HM w W r s n B2 T2 D2
  qr : ¬ q = r
  qs : ¬ q = s
  gr : ¬ g = r
  gs : ¬ g = s
theorem TW.ext {w W W' : World} {q g r s n : Nat} {B B2 : Nat → Int} {T D T2 D2 : Nat → Bool} (h : TW w W q g r s n B T D B2 T2 D2) (x : Ext W W') : TW w W' q g r s n B T D B2 T2 D2 := ⟨h.h1.ext x, h.h2.ext x, h.qr, h.qs, h.gr, h.gs⟩
theorem TW.up1 {w W W' : World} {q g r s n : Nat} {B B2 B' : Nat → Int} {T D T2 D2 T' D' : Nat → Bool} (h : TW w W q g r s n B T D B2 T2 D2) (hm : HM w W' q g n B' T' D') (x : Only (· = g) W W') : TW w W' q g r s n B' T' D' B2 T2 D2 :=
  ⟨hm, h.h2.only x (fun e => h.gr e.symm) (fun e => h.gs e.symm) (by rintro i rfl; exact h.h1.2.2.1), h.qr, h.qs, h.gr, h.gs⟩
theorem TW.up2 {w W W' : World} {q g r s n : Nat} {B B2 B' : Nat → Int} {T D T2 D2 T' D' : Nat → Bool} (h : TW w W q g r s n B T D B2 T2 D2) (hm : HM w W' r s n B' T' D') (x : Only (· = s) W W') : TW w W' q g r s n B T D B' T' D' :=
  ⟨h.h1.only x h.qs h.gs (by rintro i rfl; exact h.h2.2.2.1), hm, h.qr, h.qs, h.gr, h.gs⟩
theorem TW.two {w W W' : World} {q g r s n : Nat} {B B2 : Nat → Int} {T D T2 D2 : Nat → Bool} (h : HM w W q g n B T D) (h2 : HM W W' r s n B2 T2 D2) : TW w W' q g r s n B T D B2 T2 D2 := by
  have a1 := h.1.ltq
  have a2 := h.1.ltg
  have a3 := h2.2.2
  have a4 := h.2.1.size
  exact ⟨h.ext h2.2.1, ⟨h2.1, h.2.1.trans h2.2.1, by omega, by omega⟩, by omega, by omega, by omega, by omega⟩
/-- Bytes in two parts. -/
theorem putB_parts (B : Nat → Int) (a : Nat) (l : List Int) (j : Nat) (hj : j ≤ l.length) : putB (putB B a (l.take j)) (a + j) (l.drop j) = putB B a l := by
  funext y
  unfold putB
  rw [List.length_take, List.length_drop, Nat.min_eq_left hj]
  by_cases c1 : a + j ≤ y ∧ y < a + j + (l.length - j)
  · rw [if_pos c1, if_pos (by omega), List.getD_eq_getElem?_getD, List.getD_eq_getElem?_getD, List.getElem?_drop, show j + (y - (a + j)) = y - a by omega]
  · rw [if_neg c1]
    by_cases c2 : a ≤ y ∧ y < a + j
    · rw [if_pos c2, if_pos (by omega), List.getD_eq_getElem?_getD, List.getD_eq_getElem?_getD, List.getElem?_take_of_lt (by omega)]
    · rw [if_neg c2, if_neg (by omega)]
theorem clrT_parts (T : Nat → Bool) (a m j : Nat) (hj : j ≤ m) : clrT (clrT T a j) (a + j) (m - j) = clrT T a m := by
  funext t
  unfold clrT
  rw [Bool.and_assoc]
  congr 1
  rw [← Bool.not_or, ← Bool.decide_or]
  congr 1
  exact decide_eq_decide.2 (by omega)
theorem RdB.take {w : World} {A : Option Addr} {l : List Int} (h : RdB w A l) (j : Nat) : RdB w A (l.take j) := fun h0 => by
  obtain ⟨b, o, hA, hb, hc⟩ := h (by rw [List.length_take] at h0; omega)
  exact ⟨b, o, hA, hb, fun i hi => by rw [List.getElem_take]; exact hc i (by rw [List.length_take] at hi; omega)⟩
theorem RdB.drop {w : World} {A A' : Option Addr} {l : List Int} (h : RdB w A l) (j : Nat) (hA' : ∀ b o, A = some ⟨b, o, none⟩ → A' = some ⟨b, o + j, none⟩) : RdB w A' (l.drop j) := fun h0 => by
  rw [List.length_drop] at h0
  obtain ⟨b, o, hA, hb, hc⟩ := h (by omega)
  refine ⟨b, o + j, hA' b o hA, hb, fun i hi => ?_⟩
  rw [List.length_drop] at hi
  rw [List.getElem_drop, Nat.add_assoc]
  exact hc (j + i) (by omega)
open Go.ChangeShapes Go.WideShapes Go.ChangeAt Go.RowKit Go.Deep
section
variable {H : Type} {enc : TypeId × Value → H} {w : World} {base : Nat} {spare : Nat → Bool} {held : Bool}
theorem openBytes {r : Reach} {b0 : Nat} {v : Value} {d : DataW H} {p : List MemPlace} (hv : Value.okWide Try.prog w r b0 39 v) (h : DataW.Trod enc Try.prog w base spare held 39 v d p) :
    ∃ (A : Option Addr) (cap : Nat) (bl : List Int), v = .slice A bl.length cap ∧ bl.length ≤ cap ∧ cap ≤ maxLen ∧ RdB w A bl ∧ byteL bl ∧ (A = none → cap = 0) := by
  obtain ⟨a0, len, cap, rfl⟩ := okWide_slice Try.underlying39 hv
  obtain ⟨fuel, hf⟩ := h
  obtain ⟨A, ca, bl, hcs, h1, h2, h3, h4⟩ := trodBytes hf
  simp [Value.cells] at hcs
  obtain ⟨rfl, rfl, rfl⟩ := hcs
  refine ⟨_, _, bl, rfl, h1, h2, h3, h4, fun hA => ?_⟩
  rcases open_slice Try.underlying39 hf with ⟨e, _⟩ | ⟨a, len, cap', m, n', D, Pl, e, _⟩
  · simp [Value.cells] at e
    exact e.2.2
  · simp [Value.cells, hA] at e
end
end Go.Proofs.Ythamfkbopjagdaa
