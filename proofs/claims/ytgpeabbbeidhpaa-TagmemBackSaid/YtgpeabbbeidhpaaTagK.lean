/- Layer 7: Tags. -/
import Derived.Test.YtgpeabbbeidhpaaTagJ
import Derived.Deep.RegionHeld3
namespace Go.Proofs.Ytgpeabbbeidhpaa
set_option linter.unusedSimpArgs false
set_option linter.unusedVariables false
open Go.RowKit

attribute [local go_sem] Oper.semAt_some
theorem wpListIn_append_at {F : Fence} {n : Nat} {P : Program} (w : World) {ops : Array Oper} {rest : List Oper} {o : Oper} {a : Act} {Q : Exit → Act → World → Prop}
    (hg : o.guard = none) (s x : Operand) (t : TypeId) (hop : o.op = Op.call { callee := Callee.builtin Builtin.append, args := #[s, x], argTypes := #[t, t] })
    (base : Nat) (e : TypeId) (i : TypeInfo) (z : Value) (size bytes : Nat) (h1 : P.underlying t = some (.slice e)) (h2 : P.info? e = some i) (h3 : i.zero = some z) (h4 : i.size = size) (h5 : i.bytes = bytes) (h6 : z.cells.size = size) (h7 : 0 < size)
    (v : Value) (k : Nat) (xs : List Value) (hs : a.eval s = v) (hown : ownsAt w base e size v k xs) (ad : Addr) (m c : Nat) (news : List Value) (hx : a.eval x = .slice (some ad) m c) (hn : news.length = m * size)
    (hc : ∀ j u, news[j]? = some u → w.cell? (ad.add j) = some u) (h1c : ∀ u ∈ news, u.oneCell' = true) (b1 : k + m ≤ maxLen) (b2 : (k + m) * bytes ≤ 140737488355328) (b3 : base ≤ w.heap.size) (hm0 : 0 < m)
    (hK : ∀ v' w', ownsAt w' base e size v' (k + m) (xs ++ news) → w.grownBy w' v.ownBlock → (v'.ownBlock = v.ownBlock ∨ ∃ g, v'.ownBlock = some g ∧ w.heap.size ≤ g) → wpListIn F n P ops Q rest (a.put o.dst v') w') :
    wpListIn F n P ops Q (o :: rest) a w := by
  refine wpListIn_plain hg fun K hK' => ?_
  obtain ⟨v', w', hrun, r1, r2, r3⟩ := run_append_at (P := P) w base t o.type e i z size bytes h1 h2 h3 h4 h5 h6 h7 v k xs hown ad m c news hn hc h1c b1 b2 b3 hm0
  unfold Oper.wpIn
  refine ⟨?_, ?_⟩
  · simp [Oper.about, hop, resolve, Target.leads, Sem.run_pure]
  · rw [Oper.semAt_plain F _ _ (by rw [hop]; intro c hc'; cases hc')]
    simp [execOp, hop, resolve, invoke, builtin, hs, hx, hrun, Result.andThen]
    exact hK' _ _ (hK v' w' r1 r2 r3)
theorem Only.weaken {S S' : Nat → Prop} {w w' : World} (h : Only S w w') (hs : ∀ i, S i → S' i) : Only S' w w' := ⟨h.os, h.tape, h.output, h.size, fun k hk hn => h.block k hk fun e => hn (hs k e)⟩
theorem KpT.refl (lb : Nat) (W : World) : KpT lb W W := ⟨Only.refl _ _, fun _ h => .inl h⟩
theorem KpT.putObj {lb : Nat} (W : World) (l : Nat) (o o' : Obj) (hne : ¬ lb = l) (hlb : lb < W.heap.size) (hl : W.heap[l]? = some o) (hc : o.isCells = false) : KpT lb W (W.putObj l o') := by
  refine ⟨grownOnly (grownBy_putObj' W l o') fun g e => by cases e; exact .inr (.inr ⟨o, hl, hc⟩), ?_⟩
  rintro i ⟨o1, n1, c1, e⟩
  refine .inl ⟨o1, n1, c1, ?_⟩
  have h : Only (fun i => i = l) W (W.putObj l o') := grownOnly (grownBy_putObj' W l o') fun g e => by cases e; rfl
  exact (h.cells lb 0 hlb hne).symm.trans e
theorem own_eq (A : Option Addr) (n c i : Nat) (h : (Value.slice A n c).ownBlock = some i) : ∃ a, A = some a ∧ a.block = i := by
  cases A with
  | none => cases h
  | some a => exact ⟨a, rfl, by simpa [Value.ownBlock] using h⟩
/-- A slice of one's own points into its row. -/
theorem ownsAt.ownBox {w : World} {base : Nat} {e : TypeId} {size : Nat} {v : Value} {n : Nat} {xs : List Value} {lb g : Nat} (h : ownsAt w base e size v n xs) (hb : w.cell? ⟨lb, 0, none⟩ = some v) (hg : v.ownBlock = some g) : ownAtBox lb w g := by
  rcases h.2 with ⟨rfl, _⟩ | ⟨g', o, cap, cur, rfl, _⟩
  · cases hg
  · obtain rfl : g' = g := by simpa [Value.ownBlock] using hg
    exact ⟨_, _, _, hb⟩
theorem ownsAt.isCells {w : World} {base : Nat} {e : TypeId} {size : Nat} {v : Value} {n : Nat} {xs : List Value} {g : Nat} (h : ownsAt w base e size v n xs) (hg : v.ownBlock = some g) : ∀ o : Obj, w.heap[g]? = some o → o.isCells = true := by
  rcases h.2 with ⟨rfl, _⟩ | ⟨g', o, cap, cur, rfl, _, h1, _⟩
  · cases hg
  · obtain rfl : g' = g := by simpa [Value.ownBlock] using hg
    intro o ho
    rw [h1] at ho
    cases ho
    rfl
/-- What lies, when tags are gathered. -/
def TagI (W0 : World) (s0 : Nat) (t e : TypeId) (pre : List Nat) (W : World) : Prop :=
  (∃ vr, Boxed W s0 t vr ∧ ownsAt W (s0 + 2) e 1 vr pre.length (ints (pre.map (16 * ·)))) ∧ Only (fun i => i = s0 ∨ W0.heap.size ≤ i) W0 W
theorem TagI.own {W0 : World} {s0 : Nat} {t e : TypeId} {B : Nat} (hB : W0.heap.size ≤ B) : OwnFrom B (fun pre W => TagI W0 s0 t e pre W) := by
  rintro pre W W' row ⟨⟨vr, h1, h2⟩, h4⟩ hg hr
  have hO : Only (fun i => row = some i) W W' := grownOnly hg fun g e => e
  refine ⟨⟨vr, (hO.block s0 h1.lt fun e => ?_).trans h1, h2.only hO fun g hg2 e => ?_⟩, h4.trans' (grownOnly hg fun g e => .inr (Nat.le_trans hB (hr g e).1))⟩
  · obtain ⟨_, o, ho, hc⟩ := hr s0 e
    rw [show W.heap[s0]? = _ from h1] at ho
    cases ho
    cases hc
  · obtain ⟨_, o, ho, hc⟩ := hr g e
    rw [h2.isCells hg2 o ho] at hc
    cases hc
/-- One round. -/
theorem tags_round {W0 W w1 : World} {s0 : Nat} {t e : TypeId} {vr v' : Value} {pre : List Nat} {x : Nat} {row : Obj} (hte : ¬ t = e) (hZ : W0.heap.size = s0 + 2) (hO : Only (fun i => i = s0 ∨ W0.heap.size ≤ i) W0 W) (hvb : Boxed W s0 t vr) (hvr : ownsAt W (s0 + 2) e 1 vr pre.length (ints (pre.map (16 * ·))))
    (hgrow : (W.alloc row).grownBy w1 vr.ownBlock) (hown : ownsAt w1 (s0 + 2) e 1 v' (pre.length + 1) (ints (pre.map (16 * ·)) ++ [.int .i64 ((16 * x : Nat) : Int)])) (hat : v'.ownBlock = vr.ownBlock ∨ ∃ g, v'.ownBlock = some g ∧ (W.alloc row).heap.size ≤ g) :
    KeepsFrom W0.heap.size W (w1.setCell ⟨s0, 0, none⟩ v') ∧ KpT s0 W (w1.setCell ⟨s0, 0, none⟩ v') ∧ TagI W0 s0 t e (pre ++ [x]) (w1.setCell ⟨s0, 0, none⟩ v') := by
  have hsz : (W.alloc row).heap.size = W.heap.size + 1 := by simp
  have h1 : Only (fun i => i = s0 ∨ vr.ownBlock = some i) W w1 := (Only.alloc (Only.refl _ _) _).trans' (grownOnly hgrow fun g e => .inr e)
  have h2 : Only (fun i => i = s0 ∨ vr.ownBlock = some i) W (w1.setCell ⟨s0, 0, none⟩ v') := Only.setCell h1 (.inl (.inl rfl)) v'
  have hb1 : Boxed w1 s0 t vr := (hvb.alloc row).kept hgrow fun e => by have := (hvr.lt s0 e.symm).1; omega
  have hb2 := hb1.set v'
  have hne : ¬ v'.ownBlock = some s0 := fun e => by have := (hown.lt s0 e).1; omega
  refine ⟨⟨h2.size, fun k o hk ho hc => (h2.block k (Array.getElem?_eq_some_iff.1 ho).1 ?_).trans ho⟩, ⟨h2.weaken ?_, ?_⟩, ⟨v', hb2, ?_⟩, ?_⟩
  · rintro (rfl | e)
    · omega
    · rw [hvr.isCells e o ho] at hc
      cases hc
  · rintro i (rfl | e)
    · exact .inl rfl
    · exact .inr (.inl (hvr.ownBox hvb.cell e))
  · rintro i ⟨o1, n1, c1, e⟩
    rw [hb2.cell] at e
    cases e
    rcases hat with h | ⟨g, h, h3⟩
    · exact .inl (hvr.ownBox hvb.cell (h.symm.trans rfl))
    · cases h
      exact .inr (by simp only at h3; omega)
  · rw [List.length_append, List.map_append, ints_append]
    exact hown.only (S := fun i => i = s0) (Only.setCell (S := fun i => i = s0) (Only.refl _ _) (.inl rfl) v') fun g hg e => hne (by rw [hg, e])
  · refine hO.trans' (h2.weaken ?_)
    rintro i (rfl | e)
    · exact .inl rfl
    · exact .inr (by have := (hvr.lt i e).1; omega)
/-- What is walked over. -/
theorem tagsS_ (n : Nat) (hn : 2 ≤ n) (q g np s0 : Nat) (B : Nat → Int) (T D : Nat → Bool) (w : World) (hqb : w.cell? ⟨s0 + 1, 0, none⟩ = some (.pointer (some ⟨q, 0, none⟩))) (hs : s0 + 1 < w.heap.size) (hM : Mm w q g np B T D) (hq : q < s0) (hg : g < s0) (hbx : Boxed w s0 42 (.slice none 0 0)) :
    SeqStopsK Fence.wide n Try.prog 55 #[.pointer (some ⟨s0 + 1, 0, none⟩)] (fun x : Nat => #[Value.int .i64 ((16 * x : Nat) : Int)]) (KpT s0) (fun ys => ys = whichN T (16 * np)) (fun _ => True) (16 * np) w := fun l0 J Jx W hW hJ _ hY h0 => by
  have hE : Only (fun i => w.heap.size ≤ i) w W := ⟨hW.os, hW.tape, hW.output, hW.size, fun k hk _ => hW.block k hk⟩
  exact tgA_ n hn l0 q g np (s0 + 1) s0 B T D J Jx hY W hJ ((hW.cell (p := ⟨s0 + 1, 0, none⟩) hs).trans hqb) (Nat.lt_of_lt_of_le hs hW.size) (by omega) (hM.only hE (by have := hM.ltq; omega) (by have := hM.ltg; omega)) (by omega) (by omega) (Nat.lt_of_lt_of_le hbx.lt hW.size) (fun i => by
    rintro ⟨o1, n1, c1, e⟩
    rw [(hW.cell (p := ⟨s0, 0, none⟩) hbx.lt).trans hbx.cell] at e
    cases e) h0
set_option maxRecDepth 100000 in
set_option maxHeartbeats 4000000 in
theorem ttags_ (q g n : Nat) (B : Nat → Int) (T D : Nat → Bool) (w : World) (h : Mm w q g n B T D) : Calls Try.prog 25 #[.pointer (some ⟨q, 0, none⟩)] w fun e w' => ∃ A ca, e = .returned (.slice A (whichN T (16 * n)).length ca) ∧ Hid (RdN w' A ((whichN T (16 * n)).map (16 * ·))) ∧ Hid (Ext w w') ∧ Hid (∀ b o, A = some ⟨b, o, none⟩ → w.heap.size ≤ b) := by
  refine (callsIn_wide (n := 6)).1 ?_
  refine callsIn_of_wp_marks Try.func25 rfl trivial ?_ rfl
  simp only [Try.ntmps25]
  simp only [List.size_toArray, List.length_cons, List.length_nil, Nat.reduceAdd, Nat.reduceSub, Array.replicate_succ, Array.replicate_zero, List.push_toArray, List.append_toArray, List.nil_append, List.cons_append]
  have HM := hid h
  clear h
  gi_wp2_with ((try refine ⟨trivial, ?_⟩); gi_at_call 44; refine CallsIn.mono (callsIn_wide.2 (ttaggedF_ _ _)) ?_; rintro e w1 ⟨rfl, rfl⟩)
  refine wpIn_gen (fun W => Hid (Ext w W) ∧ Hid (W.heap.size = w.heap.size + 2) ∧ Hid (Boxed W w.heap.size 42 (.slice none 0 0)) ∧ Hid (W.cell? ⟨w.heap.size + 1, 0, none⟩ = some (.pointer (some ⟨q, 0, none⟩))))
    ⟨hid (by repeat (first | (with_reducible exact Ext.refl _) | (with_reducible refine Ext.undrew ?_) | (with_reducible refine Ext.grow ?_ _) | (with_reducible refine Ext.drew ?_) | (with_reducible refine Ext.drewN ?_ _) | (with_reducible refine Ext.alloc ?_ _) | (with_reducible assumption) | ((with_reducible refine Ext.setCell ?_ ?_ _); rotate_left; (first | exact Nat.le_refl _ | ((try dsimp only); (try simp only [World.size_alloc, grow_size, World.size_setCell]); omega))))), hid (by simp), hid ?p2, hid (by simp [go_sem])⟩ ?_
  case p2 => exact (Boxed.new w 42 (.slice none 0 0)).alloc _
  rintro W0 ⟨hE0, hZ0, hL0, hc2⟩
  obtain ⟨s0, hs0⟩ : ∃ s, w.heap.size = s := ⟨_, rfl⟩
  rw [hs0] at hZ0 hL0 hc2 ⊢
  have hZ := hZ0.out
  have HM0 := hid (HM.out.ext hE0.out)
  have hq0 : q < s0 := by have := HM.out.ltq; omega
  have hg0 : g < s0 := by have := HM.out.ltg; omega
  have hbd := HM.out.bd
  obtain ⟨i0, hi0, hz0, hz1, hz2⟩ := info_parts info_int
  refine wpIn_rangeFunc_ownH rfl (by omega) (gf := 55) (lb := #[.pointer (some ⟨s0 + 1, 0, none⟩)]) rfl trivial (enters_of Try.func55 (by kernel_rfl) rfl)
    (tagsS_ 5 (by omega) q g n s0 B T D W0 hc2.out (by omega) HM0.out hq0 hg0 hL0.out)
    (fun h k => h.trans k) (fun W l o o' hl ho hc _ => KpT.putObj W l o o' (by omega) ?kb ho hc) (Below.refl _ _) (fun _ => rfl)
    (fun pre W => TagI W0 s0 42 3 pre W) (fun _ _ _ => False) (TagI.own (Nat.le_refl _)) (fun _ _ _ _ _ hs _ _ => hs)
    ⟨⟨_, hL0.out, ownsAt_nil _ _ _ _⟩, Only.refl _ _⟩
    (fun x a' W => a' = { tmps := #[.pointer (some ⟨q, 0, none⟩), undef, .slice none 0 0, .pointer (some ⟨s0, 0, none⟩), .int .i64 ((16 * x : Nat) : Int), .pointer (some ⟨q, 0, none⟩), .func (.func 55) #[] #[.pointer (some ⟨s0 + 1, 0, none⟩)], .int .i64 ((16 * x : Nat) : Int), undef, undef, undef, undef, undef], defers := [] })
    ?ax ?assign ?body ?done ?stop
  case kb => exact Nat.lt_of_le_of_lt (by omega) (Array.getElem?_eq_some_iff.1 ho).1
  case ax =>
    rintro x a' ⟨⟩ W W' row h hg hr
    exact h
  case assign =>
    rintro l0 pre x W K hI hK
    gi_wp2
    exact hK _ _ (KeepsFrom.refl _ _) (KpT.refl _ _) hI rfl
  case body =>
    rintro l0 pre x a' W hl0 _ hI rfl hlen
    obtain ⟨⟨vr, hvb, hvr⟩, hO⟩ := hI
    have hv1 := hvb.cell
    have hv2 := hvb.frozen
    have hsz := hO.size
    have HVR := hid hvr
    have HVB := hid hvb
    have HO := hid hO
    clear hvr hvb hO
    gi_wp2_with (gi_at_builtin; go_loud (refine wpListIn_append_at _ rfl _ _ 42 rfl (s0 + 2) 3 i0 _ 1 8 Try.underlying42 hi0 hz0 hz1 hz2 rfl (by decide) vr pre.length (ints (pre.map (16 * ·))) rfl (HVR.out.only (S := fun _ => False) (Only.alloc (Only.refl _ _) _) (fun _ _ h => h)) ⟨W.heap.size, 0, none⟩ 1 1 [.int .i64 ((16 * x : Nat) : Int)] rfl rfl (fun j u hj => by rw [Addr.add_lit]; exact (Row.new W #[.int .i64 ((16 * x : Nat) : Int)] _).range j u hj) (fun u hu => by obtain rfl : u = _ := List.mem_singleton.1 hu; rfl) (by unfold maxLen; omega) (by omega) (by simp; omega) (by omega) ?_; intro v' w1 hown' hgrow hat'; obtain ⟨A', ca', rfl, _, _⟩ := hown'.shape; have hfin := hid (tags_round (by decide) hZ HO.out HVB.out HVR.out hgrow hown' hat'); have hb1 := ((HVB.out.alloc _).kept hgrow (fun e => by have := (HVR.out.lt s0 e.symm).1; omega)); have hc1 := hb1.cell; have hf1 := hb1.frozen; clear hown' hgrow hat' hb1))
    exact hfin.out
  case done =>
    rintro Dd ys W hD rfl ⟨⟨vr, hvb, hvr⟩, hO⟩ hK
    have hsz := hO.size
    have hv1 := hvb.cell
    obtain ⟨Av, cv, rfl, hcv, _⟩ := hvr.shape
    have HVR := hid hvr
    have HO := hid hO
    clear hvr hO hvb
    gi_wp2
    refine ⟨by simp, .inl ⟨_, _, rfl, run_takeDeferred (ds := []) ?hkk, ?fin⟩⟩
    case hkk => exact hK
    case fin =>
      have hp : Only (fun i => i = Dd) W (W.putObj Dd (.deferred none)) := grownOnly (grownBy_putObj' W Dd _) fun g e => by cases e; rfl
      have hX : Ext w (W.putObj Dd (.deferred none)) := Ext.only (Ext.only hE0.out HO.out fun i h => by rcases h with h | h <;> omega) hp fun i h => by omega
      refine ⟨_, results_tmp rfl _ _ _, Av, cv, ?e1, hid ?e2, hid hX, hid fun b o e => by have := (HVR.out.lt b (by rw [e]; rfl)).1; omega⟩
      case e1 => rfl
      case e2 =>
        refine (ownsAt.rdN HVR.out (by simp)).only hp fun b o e h => ?_
        have := HVR.out.isCells (g := b) (by rw [e]; rfl) (.deferred (some [])) (by rw [h]; exact hK)
        cases this
  case stop =>
    rintro D c pre W _ _ h _
    exact h.elim

end Go.Proofs.Ytgpeabbbeidhpaa
