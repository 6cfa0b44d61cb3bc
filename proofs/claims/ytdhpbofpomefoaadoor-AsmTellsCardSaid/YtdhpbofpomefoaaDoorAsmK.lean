/- Layer 16: asm.Read. -/
import Derived.Test.YtdhpbofpomefoaaDoorAsmJ
import Derived.RangeFuncNested
import Derived.RangeFuncBound
import Derived.RangeFuncCalls
import Derived.RangeFuncLeaves
import Derived.Shelf.Abstract
import Derived.Shelf.RegionOpen
import Derived.WalkKit
import Derived.OwnWalkIn
import Derived.TacticsInMore
import Derived.LoopNIn
import Derived.LoopIn
namespace Go.Proofs.YtdhpbofpomefoaaDoor
set_option linter.unusedSimpArgs false
set_option linter.unusedVariables false
open Go.RowKit

attribute [local go_sem] Oper.semAt_some
theorem wpIn_gen {F : Fence} {n : Nat} {P : Program} {a : Act} {Q : Exit → Act → World → Prop} {c : Code} {w : World} (I : World → Prop) (hI : I w) (h : ∀ w', I w' → c.wpIn F n P Q a w') : c.wpIn F n P Q a w := h w hI
theorem ownsAt_mono {w : World} {base base' : Nat} {e : TypeId} {size n : Nat} {v : Value} {xs : List Value} (h : ownsAt w base e size v n xs) (hb : base' ≤ base) : ownsAt w base' e size v n xs := by
  refine ⟨h.1, ?_⟩
  rcases h.2 with h0 | ⟨g, o, cap, cur, rfl, hbg, r⟩
  · exact .inl h0
  · exact .inr ⟨g, o, cap, cur, rfl, Nat.le_trans hb hbg, r⟩
theorem wpListIn_append_at {F : Fence} {n : Nat} {P : Program} (w : World) {ops : Array Oper} {rest : List Oper} {o : Oper} {a : Act} {Q : Exit → Act → World → Prop}
    (hg : o.guard = none) (s x : Operand) (t : TypeId) (hop : o.op = Op.call { callee := Callee.builtin Builtin.append, args := #[s, x], argTypes := #[t, t] })
    (base : Nat) (e : TypeId) (i : TypeInfo) (z : Value) (size bytes : Nat) (h1 : P.underlying t = some (.slice e)) (h2 : P.info? e = some i) (h3 : i.zero = some z) (h4 : i.size = size) (h5 : i.bytes = bytes) (h6 : z.cells.size = size) (h7 : 0 < size)
    (v : Value) (k : Nat) (xs : List Value) (hs : a.eval s = v) (hown : ownsAt w base e size v k xs) (ad : Addr) (m c : Nat) (news : List Value) (hx : a.eval x = .slice (some ad) m c) (hn : news.length = m * size)
    (hc : ∀ j u, news[j]? = some u → w.cell? (ad.add j) = some u) (h1c : ∀ u ∈ news, u.oneCell' = true) (b1 : k + m ≤ maxLen) (b2 : (k + m) * bytes ≤ 140737488355328) (b3 : base ≤ w.heap.size) (hm0 : 0 < m)
    (hK : ∀ v' w', ownsAt w' base e size v' (k + m) (xs ++ news) → w.grownBy w' v.ownBlock → (v'.ownBlock = v.ownBlock ∨ ∃ g, v'.ownBlock = some g ∧ w.heap.size ≤ g) → wpListIn F n P ops Q rest (a.put o.dst v') w') :
    wpListIn F n P ops Q (o :: rest) a w := by
  refine wpListIn_plain hg fun K hK' => ?_
  obtain ⟨v', w', hrun, r1, r2, r3⟩ := run_append_at (P := P) w base t o.type e i z size bytes h1 h2 h3 h4 h5 h6 h7 v k xs hown ad m c news hn hc h1c b1 b2 b3 hm0
  unfold Oper.wpIn
  refine ⟨?_, ?_⟩
  · simp [Oper.about, hop, resolve, Target.leads, Sem.run_pure]
  · rw [Oper.semAt_plain F _ _ (by rw [hop]; intro c hc'; cases hc')]
    simp [execOp, hop, resolve, invoke, builtin, hs, hx, hrun, Result.andThen]
    exact hK' _ _ (hK v' w' r1 r2 r3)
theorem info_insN : InfoN Tryd.prog 23 4 32 := infoN_of (by kernel_rfl)
theorem chN_cnt : ∀ (n : Nat) (s : List UInt8), (chN n s).length ≤ n
  | 0, s => by simp [chN]
  | n + 1, s => by
    rw [chN]
    split
    · simp
    · rw [List.length_cons]
      have := chN_cnt n (s.drop (endL s))
      omega
theorem chL_cnt (s : List UInt8) : (chL s).length ≤ s.length := chN_cnt _ _
theorem Only.weaken {S S' : Nat → Prop} {w w' : World} (h : Only S w w') (hs : ∀ i, S i → S' i) : Only S' w w' := ⟨h.os, h.tape, h.output, h.size, fun k hk hn => h.block k hk fun e => hn (hs k e)⟩
theorem wpAnyIn_gen {F : Fence} {n : Nat} {P : Program} {md : Region.Mode} {ops : Array Oper} {fuel : Nat} {listed : Array Bool} {a : Act} {Q : Exit → Act → World → Prop} {w : World} (I : World → Prop) (hI : I w) (h : ∀ w', I w' → wpAnyIn F n P md ops Q fuel listed a w') : wpAnyIn F n P md ops Q fuel listed a w := h w hI
/-- What a round that stops leaves. -/
theorem read_stop {W0 W W6 : World} {s0 : Nat} {t : TypeId} {pre : List Ch} {x : Ch} {acc : List In} {z : In} (hZ : W0.heap.size = s0 + 5) (hO : Only (fun i => i = s0 + 3 ∨ W0.heap.size ≤ i) W0 W) (h6 : Ext W W6)
    (b0 : Boxed W0 s0 t (.slice none 0 0)) (b1 : Boxed W0 (s0 + 1) 3 (.int .i64 0)) (b2 : Boxed W0 (s0 + 2) 4 (.bool false)) (hal : acc.length ≤ (pre.map (·.1)).length)
    (hrd : ∀ rest, rdC valT [] (pre.map (·.1) ++ rest) = rdC valT acc rest) (hl : lineN valT x.1 = (z, false)) :
    KeepsFrom W0.heap.size W (((W6.setCell ⟨s0, 0, none⟩ (.slice none 0 0)).setCell ⟨s0 + 1, 0, none⟩ (.int .i64 acc.length)).setCell ⟨s0 + 1 + 1, 0, none⟩ (.bool false)) ∧ True ∧ ReadX W0 s0 (s0 + 1) (s0 + 2) t .ret ((pre ++ [x]).map (·.1)) (((W6.setCell ⟨s0, 0, none⟩ (.slice none 0 0)).setCell ⟨s0 + 1, 0, none⟩ (.int .i64 acc.length)).setCell ⟨s0 + 1 + 1, 0, none⟩ (.bool false)) := by
  have hsz := hO.size
  have c0 : Boxed W6 s0 t (.slice none 0 0) := (h6.block s0 (by omega)).trans ((hO.block s0 (by omega) (by omega)).trans b0)
  have c1 : Boxed W6 (s0 + 1) 3 (.int .i64 0) := (h6.block (s0 + 1) (by omega)).trans ((hO.block (s0 + 1) (by omega) (by omega)).trans b1)
  have c2 : Boxed W6 (s0 + 2) 4 (.bool false) := (h6.block (s0 + 2) (by omega)).trans ((hO.block (s0 + 2) (by omega) (by omega)).trans b2)
  have hO7 : Only (fun i => i = s0 ∨ i = s0 + 1 ∨ i = s0 + 1 + 1) W6 (((W6.setCell ⟨s0, 0, none⟩ (.slice none 0 0)).setCell ⟨s0 + 1, 0, none⟩ (.int .i64 acc.length)).setCell ⟨s0 + 1 + 1, 0, none⟩ (.bool false)) :=
    Only.setCell (Only.setCell (Only.setCell (Only.refl _ _) (.inl (.inl rfl)) _) (.inl (.inr (.inl rfl))) _) (.inl (.inr (.inr rfl))) _
  have hOW : Only (fun i => i = s0 ∨ i = s0 + 1 ∨ i = s0 + 1 + 1) W (((W6.setCell ⟨s0, 0, none⟩ (.slice none 0 0)).setCell ⟨s0 + 1, 0, none⟩ (.int .i64 acc.length)).setCell ⟨s0 + 1 + 1, 0, none⟩ (.bool false)) := (Only.ofExt (S := fun i => i = s0 ∨ i = s0 + 1 ∨ i = s0 + 1 + 1) h6).trans' hO7
  refine ⟨⟨hOW.size, fun k o hk ho hc => (hOW.block k (Array.getElem?_eq_some_iff.1 ho).1 (by omega)).trans ho⟩, trivial, trivial, acc.length, ((c0.set _).other (by omega) _).other (by omega) _, ((c1.other (by omega) _).set _).other (by omega) _, ((c2.other (by omega) _).other (by omega) _).set _, ?_, ?_, ?_⟩
  · rw [List.map_append, List.length_append]
    omega
  · rw [List.map_append]
    exact rdC_no hrd hl
  · exact (Only.weaken hO (fun i h => by omega)).trans' (Only.weaken hOW (fun i h => by omega))
/-- What a round that goes on leaves. -/
theorem read_on {W0 W W2 w1 : World} {s0 : Nat} {t e : TypeId} {pre : List Ch} {x : Ch} {acc : List In} {z : In} {vr v' : Value} (hte : ¬ t = e) (hZ : W0.heap.size = s0 + 5) (hO : Only (fun i => i = s0 + 3 ∨ W0.heap.size ≤ i) W0 W) (h2 : Ext W W2)
    (hvb : Boxed W (s0 + 3) t vr) (hvr : ownsAt W (s0 + 5) e 4 vr acc.length (rowF insC acc)) (hal : acc.length ≤ (pre.map (·.1)).length)
    (hrd : ∀ rest, rdC valT [] (pre.map (·.1) ++ rest) = rdC valT acc rest) (hl : lineN valT x.1 = (z, true))
    (hgrow : W2.grownBy w1 vr.ownBlock) (hown : ownsAt w1 (s0 + 5) e 4 v' (acc.length + 1) (rowF insC acc ++ insC z)) :
    (w1.cell? ⟨s0 + 1 + 1 + 1, 0, none⟩ = some vr ∧ w1.frozen? ⟨s0 + 1 + 1 + 1, 0, none⟩ = false) ∧ KeepsFrom W0.heap.size W (w1.setCell ⟨s0 + 1 + 1 + 1, 0, none⟩ v') ∧ True ∧ ReadI W0 (s0 + 3) (s0 + 5) t e ((pre ++ [x]).map (·.1)) (w1.setCell ⟨s0 + 1 + 1 + 1, 0, none⟩ v') := by
  have hsz := hO.size
  have h1 : Only (fun i => i = s0 + 3 ∨ vr.ownBlock = some i) W w1 := (Only.ofExt (S := fun i => i = s0 + 3 ∨ vr.ownBlock = some i) h2).trans' (grownOnly hgrow fun g e => .inr e)
  have h3 : Only (fun i => i = s0 + 3 ∨ vr.ownBlock = some i) W (w1.setCell ⟨s0 + 1 + 1 + 1, 0, none⟩ v') := Only.setCell h1 (.inl (.inl rfl)) v'
  have hb1 : Boxed w1 (s0 + 3) t vr := Boxed.kept ((h2.block (s0 + 3) hvb.lt).trans hvb) hgrow (fun e => by have := (hvr.lt (s0 + 3) e.symm).1; omega)
  have hb2 := hb1.set v'
  have hne : ¬ v'.ownBlock = some (s0 + 3) := fun e => by have := (hown.lt (s0 + 3) e).1; omega
  refine ⟨⟨hb1.cell, hb1.frozen⟩, ⟨h3.size, fun k o hk ho hc => (h3.block k (Array.getElem?_eq_some_iff.1 ho).1 ?_).trans ho⟩, trivial, ⟨v', acc ++ [z], hb2, ?_, ?_, ?_⟩, ?_⟩
  · rintro (rfl | e)
    · omega
    · rw [ownsAt_isCells hvr e o ho] at hc
      cases hc
  · rw [List.length_append, rowF_snoc]
    exact hown.only (S := fun i => i = s0 + 3) (Only.setCell (S := fun i => i = s0 + 3) (Only.refl _ _) (.inl rfl) v') fun g hg e => hne (by rw [hg, e])
  · rw [List.map_append, List.length_append, List.length_append]
    simp only [List.length_cons, List.length_nil, List.map_cons, List.map_nil]
    omega
  · rw [List.map_append]
    exact rdC_yes hrd hl
  · refine hO.trans' (h3.weaken ?_)
    rintro i (rfl | e)
    · exact .inl rfl
    · exact .inr (by have := (hvr.lt i e).1; omega)
set_option maxRecDepth 100000 in
set_option maxHeartbeats 4000000 in
theorem read_ (s : List UInt8) (hs : s.length ≤ 1000000) (w : World) (ht : Tb w) : Calls Tryd.prog 16 #[.string ⟨s.toArray⟩] w fun e w' => ∃ v, e = .returned (.tuple #[v, .int .i64 (readL valT s).2.1, .bool (readL valT s).2.2]) ∧ Hid (ownsAt w' w.heap.size 23 4 v (readL valT s).1.length (rowF insC (readL valT s).1)) ∧ Hid (Ext w w') := by
  refine (callsIn_wide (n := 6)).1 ?_
  refine callsIn_of_wp_marks Tryd.func16 rfl trivial ?_ rfl
  simp only [Tryd.ntmps16]
  simp only [List.size_toArray, List.length_cons, List.length_nil, Nat.reduceAdd, Nat.reduceSub, Array.replicate_succ, Array.replicate_zero, List.push_toArray, List.append_toArray, List.nil_append, List.cons_append]
  have HT := hid ht
  clear ht
  gi_wp2_with ((try refine ⟨trivial, ?_⟩); gi_at_call 32; refine CallsIn.mono (callsIn_wide.2 (lines_ _ _)) ?_; rintro e w1 ⟨rfl, rfl⟩)
  refine wpIn_gen (fun W => Hid (Ext w W) ∧ Hid (W.heap.size = w.heap.size + 5) ∧ Hid (Boxed W w.heap.size 30 (.slice none 0 0)) ∧ Hid (Boxed W (w.heap.size + 1) 3 (.int .i64 0)) ∧ Hid (Boxed W (w.heap.size + 2) 4 (.bool false)) ∧ Hid (Boxed W (w.heap.size + 3) 30 (.slice none 0 0)) ∧ Hid (W.cell? ⟨w.heap.size + 4, 0, none⟩ = some (.string ⟨s.toArray⟩)))
    ⟨hid (by repeat (first | (with_reducible exact Ext.refl _) | (with_reducible refine Ext.undrew ?_) | (with_reducible refine Ext.grow ?_ _) | (with_reducible refine Ext.drew ?_) | (with_reducible refine Ext.drewN ?_ _) | (with_reducible refine Ext.alloc ?_ _) | (with_reducible assumption) | ((with_reducible refine Ext.setCell ?_ ?_ _); rotate_left; (first | exact Nat.le_refl _ | ((try dsimp only); (try simp only [World.size_alloc, grow_size, World.size_setCell]); omega))))), hid (by simp), hid ?p1, hid ?p2, hid ?p3, hid ?p4, hid (by simp [go_sem])⟩ ?_
  case p1 => exact ((((Boxed.new w 30 (.slice none 0 0)).alloc _).alloc _).alloc _).alloc _
  case p2 => have := (((Boxed.new (w.alloc (.cells #[.slice none 0 0] 30)) 3 (.int .i64 0)).alloc (.cells #[.bool false] 4)).alloc (.cells #[.slice none 0 0] 30)).alloc (.cells #[.string ⟨s.toArray⟩] 9); simpa using this
  case p3 => have := ((Boxed.new ((w.alloc (.cells #[.slice none 0 0] 30)).alloc (.cells #[.int .i64 0] 3)) 4 (.bool false)).alloc (.cells #[.slice none 0 0] 30)).alloc (.cells #[.string ⟨s.toArray⟩] 9); simpa using this
  case p4 => have := (Boxed.new (((w.alloc (.cells #[.slice none 0 0] 30)).alloc (.cells #[.int .i64 0] 3)).alloc (.cells #[.bool false] 4)) 30 (.slice none 0 0)).alloc (.cells #[.string ⟨s.toArray⟩] 9); simpa using this
  rintro W0 ⟨hE0, hZ0, hB0, hB1, hB2, hL0, hc2⟩
  obtain ⟨s0, hs0⟩ : ∃ s, w.heap.size = s := ⟨_, rfl⟩
  rw [hs0] at hZ0 hB0 hB1 hB2 hL0 hc2 ⊢
  have hZ := hZ0.out
  refine wpIn_rangeFunc_ownH rfl (by omega) (gf := 46) (lb := #[.pointer (some ⟨s0 + 1 + 1 + 1 + 1, 0, none⟩)]) rfl trivial (enters_of Tryd.func46 (by kernel_rfl) rfl)
    (linesS_ 5 (by omega) (s0 + 4) s hs W0 hc2.out (by omega))
    (fun _ _ => trivial) (fun _ _ _ _ _ _ _ _ => trivial) (Below.refl _ _) (fun _ => rfl)
    (fun pre W => ReadI W0 (s0 + 3) (s0 + 5) 30 23 (pre.map (·.1)) W) (fun c pre W => ReadX W0 s0 (s0 + 1) (s0 + 2) 30 c (pre.map (·.1)) W) (fun pre W W' row h hg hr => ReadI.own (Nat.le_refl _) (pre.map (·.1)) W W' row h hg hr) (fun c pre W W' row h hg hr => ReadX.own (by omega) (pre.map (·.1)) W W' row h hg hr)
    ⟨⟨_, [], hL0.out, ownsAt_nil _ _ _ _, Nat.le_refl _, fun _ => rfl⟩, Only.refl _ _⟩
    (fun x a' W => a' = { tmps := #[.string ⟨s.toArray⟩, undef, .pointer (some ⟨s0, 0, none⟩), .pointer (some ⟨s0 + 1, 0, none⟩), .pointer (some ⟨s0 + 1 + 1, 0, none⟩), .pointer (some ⟨s0 + 1 + 1 + 1, 0, none⟩), .string ⟨x.1.toArray⟩, undef, undef, undef, undef, .string ⟨s.toArray⟩, .func (.func 46) #[] #[.pointer (some ⟨s0 + 1 + 1 + 1 + 1, 0, none⟩)], .string ⟨x.1.toArray⟩, undef, undef, undef, undef, undef, undef, undef, undef, undef, undef, undef, undef, undef, undef, undef, undef, undef, undef, undef, undef, undef, undef, undef, undef, undef], defers := [] })
    ?ax ?assign ?body ?done ?stop
  case ax =>
    rintro x a' ⟨⟩ W W' row h hg hr
    exact h
  case assign =>
    rintro l0 pre x W K hI hK
    gi_wp2
    exact hK _ _ (KeepsFrom.refl _ _) trivial hI rfl
  case body =>
    rintro l0 pre x a' W hl0 _ hI rfl hlen
    obtain ⟨⟨vr, acc, hvb, hvr, hal, hrd⟩, hO⟩ := hI
    have hsz := hO.size
    have hal2 : acc.length ≤ 1000000 := by have h9 := chL_cnt s; rw [List.length_map] at hal; omega
    obtain ⟨Av, cv, rfl, hcv, _⟩ := hvr.shape
    have HVR := hid hvr
    have HVB := hid hvb
    have HO := hid hO
    have HRD := hid hrd
    clear hvr hvb hO hrd
    have HTW := hid (HT.out.ext (Ext.only hE0.out HO.out fun i h => by omega))
    have hx0 := x.2
    gi_wp2
    refine ⟨trivial, ?_⟩
    refine CallsIn.mono (CallsIn.inRound l0 (callsIn_wide.2 (cut_ x.1 _ (by omega)))) ?_
    rintro e w1 ⟨rfl, rfl⟩
    (try simp only [])
    gi_wp2
    refine ⟨trivial, ?_⟩
    refine CallsIn.mono (CallsIn.inRound l0 (callsIn_wide.2 (parse_ _ _ HTW.out (by
      show (List.toArray _).size ≤ _
      rw [List.size_toArray]
      unfold Lib.trimSuffix
      split
      · rw [List.length_take]; omega
      · omega)))) ?_
    rintro e w2 ⟨rfl, hx2⟩
    obtain ⟨pn, hPN⟩ : ∃ pn, parseN valT (Lib.trimSuffix x.1 [10]) = pn := ⟨_, rfl⟩
    obtain ⟨hsb, hHS⟩ : ∃ hsb, Lib.hasSuffix x.1 [10] = hsb := ⟨_, rfl⟩
    rw [hPN, hHS]
    obtain ⟨⟨y0, y1, y2, y3⟩, yb⟩ := pn
    have HLN : Hid (lineN valT x.1 = if hsb = true then (⟨y0, y1, y2, y3⟩, yb) else (noIn, false)) := hid (by unfold lineN; rw [hHS, hPN])
    simp only [insV]
    have HX2 := hid hx2
    clear hPN hHS hx2
    cases hsb with
    | false =>
      have hx2 := HX2.out
      have hz2 := hx2.size
      gi_wp2
      refine wpIn_region_any (by kernel_rfl) ?_
      change wpAnyIn _ _ _ _ _ _ _ _ _ (World.drew _)
      refine wpAnyIn_gen (fun W6 => Hid (Ext w1 W6)) (hid (by repeat (first | (with_reducible exact Ext.refl _) | (with_reducible refine Ext.undrew ?_) | (with_reducible refine Ext.grow ?_ _) | (with_reducible refine Ext.drew ?_) | (with_reducible refine Ext.drewN ?_ _) | (with_reducible refine Ext.alloc ?_ _) | (with_reducible assumption) | ((with_reducible refine Ext.setCell ?_ ?_ _); rotate_left; (first | exact Nat.le_refl _ | ((try dsimp only); (try simp only [World.size_alloc, grow_size, World.size_setCell]); omega)))))) ?_
      rintro W6 HX6
      have hx6 := HX6.out
      have hsz6 := hx6.size
      have q0 : Boxed w1 s0 30 (.slice none 0 0) := (HO.out.block s0 hB0.out.lt (by omega)).trans hB0.out
      have q1 : Boxed w1 (s0 + 1) 3 (.int .i64 0) := (HO.out.block (s0 + 1) hB1.out.lt (by omega)).trans hB1.out
      have q2 : Boxed w1 (s0 + 1 + 1) 4 (.bool false) := (HO.out.block (s0 + 2) hB2.out.lt (by omega)).trans hB2.out
      have v1 : World.cell? W6 ⟨s0 + 1 + 1 + 1, 0, none⟩ = some (.slice Av acc.length cv) := (hx6.cells (s0 + 3) 0 HVB.out.lt).trans HVB.out.cell
      have c0 : World.cell? W6 ⟨s0, 0, none⟩ = some (.slice none 0 0) := (hx6.cells s0 0 q0.lt).trans q0.cell
      have c1 : World.cell? W6 ⟨s0 + 1, 0, none⟩ = some (.int .i64 0) := (hx6.cells (s0 + 1) 0 q1.lt).trans q1.cell
      have c2 : World.cell? W6 ⟨s0 + 1 + 1, 0, none⟩ = some (.bool false) := (hx6.cells (s0 + 1 + 1) 0 q2.lt).trans q2.cell
      have e0 : World.frozen? W6 ⟨s0, 0, none⟩ = false := (hx6.frozens s0 0 q0.lt).trans q0.frozen
      have e1 : World.frozen? W6 ⟨s0 + 1, 0, none⟩ = false := (hx6.frozens (s0 + 1) 0 q1.lt).trans q1.frozen
      have e2 : World.frozen? W6 ⟨s0 + 1 + 1, 0, none⟩ = false := (hx6.frozens (s0 + 1 + 1) 0 q2.lt).trans q2.frozen
      have HLB := hid (show lineN valT x.1 = (noIn, false) by rw [HLN.out]; rfl)
      have hfin := hid (read_stop hZ HO.out hx6 hB0.out hB1.out hB2.out hal HRD.out HLB.out)
      clear q0 q1 q2 hx6 HX6 HVB HVR HRD HLN HX2
      refine wpAnyIn_ready (rs := [0, 2]) (by kernel_rfl) (by simp) ?_
      refine AllReadyIn.cons rfl (fun K hK => ?_) ?_
      · go_simp
        refine hK _ _ ?_
        clear hK K
        refine wpAnyIn_ready (rs := [1, 2]) (by kernel_rfl) (by simp) ?_
        refine AllReadyIn.cons rfl (fun K hK => ?_) ?_
        · go_simp
          refine hK _ _ ?_
          clear hK K
          refine wpAnyIn_ready (rs := [2]) (by kernel_rfl) (by simp) ?_
          refine AllReadyIn.cons rfl (fun K hK => ?_) ?_
          · go_simp
            refine hK _ _ ?_
            clear hK K
            refine wpAnyIn_ready (rs := [3]) (by kernel_rfl) (by simp) ?_
            refine AllReadyIn.cons rfl (fun K hK => ?_) ?_
            · go_simp
              refine hK _ _ ?_
              clear hK K
              refine wpAnyIn_ready (rs := [4]) (by kernel_rfl) (by simp) ?_
              refine AllReadyIn.cons rfl (fun K hK => ?_) ?_
              · go_simp
                refine hK _ _ ?_
                clear hK K
                refine wpAnyIn_done (by kernel_rfl) ?_ _
                gi_wp2
                exact ⟨hfin.out.1, hfin.out.2.2⟩
              exact AllReadyIn.nil
            exact AllReadyIn.nil
          exact AllReadyIn.nil
        refine AllReadyIn.cons rfl (fun K hK => ?_) ?_
        · go_simp
          refine hK _ _ ?_
          clear hK K
          refine wpAnyIn_ready (rs := [1]) (by kernel_rfl) (by simp) ?_
          refine AllReadyIn.cons rfl (fun K hK => ?_) ?_
          · go_simp
            refine hK _ _ ?_
            clear hK K
            refine wpAnyIn_ready (rs := [3]) (by kernel_rfl) (by simp) ?_
            refine AllReadyIn.cons rfl (fun K hK => ?_) ?_
            · go_simp
              refine hK _ _ ?_
              clear hK K
              refine wpAnyIn_ready (rs := [4]) (by kernel_rfl) (by simp) ?_
              refine AllReadyIn.cons rfl (fun K hK => ?_) ?_
              · go_simp
                refine hK _ _ ?_
                clear hK K
                refine wpAnyIn_done (by kernel_rfl) ?_ _
                gi_wp2
                exact ⟨hfin.out.1, hfin.out.2.2⟩
              exact AllReadyIn.nil
            exact AllReadyIn.nil
          exact AllReadyIn.nil
        exact AllReadyIn.nil
      refine AllReadyIn.cons rfl (fun K hK => ?_) ?_
      · go_simp
        refine hK _ _ ?_
        clear hK K
        refine wpAnyIn_ready (rs := [0]) (by kernel_rfl) (by simp) ?_
        refine AllReadyIn.cons rfl (fun K hK => ?_) ?_
        · go_simp
          refine hK _ _ ?_
          clear hK K
          refine wpAnyIn_ready (rs := [1]) (by kernel_rfl) (by simp) ?_
          refine AllReadyIn.cons rfl (fun K hK => ?_) ?_
          · go_simp
            refine hK _ _ ?_
            clear hK K
            refine wpAnyIn_ready (rs := [3]) (by kernel_rfl) (by simp) ?_
            refine AllReadyIn.cons rfl (fun K hK => ?_) ?_
            · go_simp
              refine hK _ _ ?_
              clear hK K
              refine wpAnyIn_ready (rs := [4]) (by kernel_rfl) (by simp) ?_
              refine AllReadyIn.cons rfl (fun K hK => ?_) ?_
              · go_simp
                refine hK _ _ ?_
                clear hK K
                refine wpAnyIn_done (by kernel_rfl) ?_ _
                gi_wp2
                exact ⟨hfin.out.1, hfin.out.2.2⟩
              exact AllReadyIn.nil
            exact AllReadyIn.nil
          exact AllReadyIn.nil
        exact AllReadyIn.nil
      exact AllReadyIn.nil
    | true =>
      cases yb with
      | false =>
        have hx2 := HX2.out
        have hz2 := hx2.size
        gi_wp2
        refine wpIn_region_any (by kernel_rfl) ?_
        change wpAnyIn _ _ _ _ _ _ _ _ _ (World.drew _)
        refine wpAnyIn_gen (fun W6 => Hid (Ext w1 W6)) (hid (by repeat (first | (with_reducible exact Ext.refl _) | (with_reducible refine Ext.undrew ?_) | (with_reducible refine Ext.grow ?_ _) | (with_reducible refine Ext.drew ?_) | (with_reducible refine Ext.drewN ?_ _) | (with_reducible refine Ext.alloc ?_ _) | (with_reducible assumption) | ((with_reducible refine Ext.setCell ?_ ?_ _); rotate_left; (first | exact Nat.le_refl _ | ((try dsimp only); (try simp only [World.size_alloc, grow_size, World.size_setCell]); omega)))))) ?_
        rintro W6 HX6
        have hx6 := HX6.out
        have hsz6 := hx6.size
        have q0 : Boxed w1 s0 30 (.slice none 0 0) := (HO.out.block s0 hB0.out.lt (by omega)).trans hB0.out
        have q1 : Boxed w1 (s0 + 1) 3 (.int .i64 0) := (HO.out.block (s0 + 1) hB1.out.lt (by omega)).trans hB1.out
        have q2 : Boxed w1 (s0 + 1 + 1) 4 (.bool false) := (HO.out.block (s0 + 2) hB2.out.lt (by omega)).trans hB2.out
        have v1 : World.cell? W6 ⟨s0 + 1 + 1 + 1, 0, none⟩ = some (.slice Av acc.length cv) := (hx6.cells (s0 + 3) 0 HVB.out.lt).trans HVB.out.cell
        have c0 : World.cell? W6 ⟨s0, 0, none⟩ = some (.slice none 0 0) := (hx6.cells s0 0 q0.lt).trans q0.cell
        have c1 : World.cell? W6 ⟨s0 + 1, 0, none⟩ = some (.int .i64 0) := (hx6.cells (s0 + 1) 0 q1.lt).trans q1.cell
        have c2 : World.cell? W6 ⟨s0 + 1 + 1, 0, none⟩ = some (.bool false) := (hx6.cells (s0 + 1 + 1) 0 q2.lt).trans q2.cell
        have e0 : World.frozen? W6 ⟨s0, 0, none⟩ = false := (hx6.frozens s0 0 q0.lt).trans q0.frozen
        have e1 : World.frozen? W6 ⟨s0 + 1, 0, none⟩ = false := (hx6.frozens (s0 + 1) 0 q1.lt).trans q1.frozen
        have e2 : World.frozen? W6 ⟨s0 + 1 + 1, 0, none⟩ = false := (hx6.frozens (s0 + 1 + 1) 0 q2.lt).trans q2.frozen
        have HLB := hid (show lineN valT x.1 = (⟨y0, y1, y2, y3⟩, false) by rw [HLN.out]; rfl)
        have hfin := hid (read_stop hZ HO.out hx6 hB0.out hB1.out hB2.out hal HRD.out HLB.out)
        clear q0 q1 q2 hx6 HX6 HVB HVR HRD HLN HX2
        refine wpAnyIn_ready (rs := [0, 2]) (by kernel_rfl) (by simp) ?_
        refine AllReadyIn.cons rfl (fun K hK => ?_) ?_
        · go_simp
          refine hK _ _ ?_
          clear hK K
          refine wpAnyIn_ready (rs := [1, 2]) (by kernel_rfl) (by simp) ?_
          refine AllReadyIn.cons rfl (fun K hK => ?_) ?_
          · go_simp
            refine hK _ _ ?_
            clear hK K
            refine wpAnyIn_ready (rs := [2]) (by kernel_rfl) (by simp) ?_
            refine AllReadyIn.cons rfl (fun K hK => ?_) ?_
            · go_simp
              refine hK _ _ ?_
              clear hK K
              refine wpAnyIn_ready (rs := [3]) (by kernel_rfl) (by simp) ?_
              refine AllReadyIn.cons rfl (fun K hK => ?_) ?_
              · go_simp
                refine hK _ _ ?_
                clear hK K
                refine wpAnyIn_ready (rs := [4]) (by kernel_rfl) (by simp) ?_
                refine AllReadyIn.cons rfl (fun K hK => ?_) ?_
                · go_simp
                  refine hK _ _ ?_
                  clear hK K
                  refine wpAnyIn_done (by kernel_rfl) ?_ _
                  gi_wp2
                  exact ⟨hfin.out.1, hfin.out.2.2⟩
                exact AllReadyIn.nil
              exact AllReadyIn.nil
            exact AllReadyIn.nil
          refine AllReadyIn.cons rfl (fun K hK => ?_) ?_
          · go_simp
            refine hK _ _ ?_
            clear hK K
            refine wpAnyIn_ready (rs := [1]) (by kernel_rfl) (by simp) ?_
            refine AllReadyIn.cons rfl (fun K hK => ?_) ?_
            · go_simp
              refine hK _ _ ?_
              clear hK K
              refine wpAnyIn_ready (rs := [3]) (by kernel_rfl) (by simp) ?_
              refine AllReadyIn.cons rfl (fun K hK => ?_) ?_
              · go_simp
                refine hK _ _ ?_
                clear hK K
                refine wpAnyIn_ready (rs := [4]) (by kernel_rfl) (by simp) ?_
                refine AllReadyIn.cons rfl (fun K hK => ?_) ?_
                · go_simp
                  refine hK _ _ ?_
                  clear hK K
                  refine wpAnyIn_done (by kernel_rfl) ?_ _
                  gi_wp2
                  exact ⟨hfin.out.1, hfin.out.2.2⟩
                exact AllReadyIn.nil
              exact AllReadyIn.nil
            exact AllReadyIn.nil
          exact AllReadyIn.nil
        refine AllReadyIn.cons rfl (fun K hK => ?_) ?_
        · go_simp
          refine hK _ _ ?_
          clear hK K
          refine wpAnyIn_ready (rs := [0]) (by kernel_rfl) (by simp) ?_
          refine AllReadyIn.cons rfl (fun K hK => ?_) ?_
          · go_simp
            refine hK _ _ ?_
            clear hK K
            refine wpAnyIn_ready (rs := [1]) (by kernel_rfl) (by simp) ?_
            refine AllReadyIn.cons rfl (fun K hK => ?_) ?_
            · go_simp
              refine hK _ _ ?_
              clear hK K
              refine wpAnyIn_ready (rs := [3]) (by kernel_rfl) (by simp) ?_
              refine AllReadyIn.cons rfl (fun K hK => ?_) ?_
              · go_simp
                refine hK _ _ ?_
                clear hK K
                refine wpAnyIn_ready (rs := [4]) (by kernel_rfl) (by simp) ?_
                refine AllReadyIn.cons rfl (fun K hK => ?_) ?_
                · go_simp
                  refine hK _ _ ?_
                  clear hK K
                  refine wpAnyIn_done (by kernel_rfl) ?_ _
                  gi_wp2
                  exact ⟨hfin.out.1, hfin.out.2.2⟩
                exact AllReadyIn.nil
              exact AllReadyIn.nil
            exact AllReadyIn.nil
          exact AllReadyIn.nil
        exact AllReadyIn.nil
      | true =>
        have hx2 := HX2.out
        have hz2 := hx2.size
        obtain ⟨i0, z0, hi0, hz0, hzz2, hz3, hz1⟩ := info_insN
        have v1 : World.cell? w2 ⟨s0 + 1 + 1 + 1, 0, none⟩ = some (.slice Av acc.length cv) := (hx2.cells (s0 + 3) 0 HVB.out.lt).trans HVB.out.cell
        have hl3 : s0 + 1 + 1 + 1 < w2.heap.size := by have := HVB.out.lt; omega
        have HLB := hid (show lineN valT x.1 = (⟨y0, y1, y2, y3⟩, true) by rw [HLN.out]; rfl)
        gi_wp2_with (gi_at_builtin; go_loud (refine wpListIn_append_at _ rfl _ _ 30 rfl (s0 + 5) 23 i0 z0 4 32 Tryd.underlying30 hi0 hz0 hzz2 hz3 hz1 (by decide) (.slice Av acc.length cv) acc.length (rowF insC acc) rfl (HVR.out.ext ((hx2.alloc _).alloc _)) ⟨_, 0, none⟩ 1 1 (insC ⟨y0, y1, y2, y3⟩) rfl rfl (fun j u hj => by rw [Addr.add_lit]; have h9 := (Row.new (w2.alloc (.cells #[.int .i64 y0, .int .i64 y1, .int .i64 y2, .int .i64 y3] 23)) #[.int .i64 y0, .int .i64 y1, .int .i64 y2, .int .i64 y3] 23).range j u hj; rw [World.size_alloc] at h9; exact h9) (insC_one _) (by unfold maxLen; omega) (by omega) (by simp; omega) (by omega) ?_; intro v' wz hown' hgrow hat'; obtain ⟨A', ca', rfl, _, _⟩ := hown'.shape; have hfin := hid (read_on (by decide) hZ HO.out ((hx2.alloc _).alloc _) HVB.out HVR.out hal HRD.out HLB.out hgrow hown'); have hc1 := hfin.out.1.1; have hf1 := hfin.out.1.2; clear hown' hgrow hat'))
        have hK2 := hfin.out.2
        rw [hZ] at hK2
        exact hK2
  case done =>
    rintro Dd ys W hD hys ⟨⟨vr, acc, hvb, hvr, hal, hrd⟩, hO⟩ hK
    have hsz := hO.size
    have hR : readL valT s = (acc, acc.length, true) := by
      have := hrd []
      rw [List.append_nil, hys] at this
      rw [readL_rdC, this]
      rfl
    have HR := hid hR
    clear hrd hR hal
    obtain ⟨Av, cv, rfl, hcv, _⟩ := hvr.shape
    have y2 : Boxed W s0 30 (.slice none 0 0) := (hO.block s0 hB0.out.lt (by omega)).trans hB0.out
    have y3 : Boxed W (s0 + 1) 3 (.int .i64 0) := (hO.block (s0 + 1) hB1.out.lt (by omega)).trans hB1.out
    have y4 : Boxed W (s0 + 2) 4 (.bool false) := (hO.block (s0 + 2) hB2.out.lt (by omega)).trans hB2.out
    have v0 : W.cell? ⟨s0 + 1 + 1 + 1, 0, none⟩ = some (.slice Av acc.length cv) := hvb.cell
    have v1 : s0 + 1 + 1 + 1 < W.heap.size := hvb.lt
    have x2 := y2.cell
    have x3 : W.cell? ⟨s0 + 1, 0, none⟩ = some (.int .i64 0) := y3.cell
    have x4 : W.cell? ⟨s0 + 1 + 1, 0, none⟩ = some (.bool false) := y4.cell
    have f2 := y2.frozen
    have f3 : W.frozen? ⟨s0 + 1, 0, none⟩ = false := y3.frozen
    have f4 : W.frozen? ⟨s0 + 1 + 1, 0, none⟩ = false := y4.frozen
    have HVR := hid hvr
    have HO := hid hO
    have HK := hid hK
    clear hvr hO hK
    gi_wp2
    refine wpIn_wide.2 ?_
    refine wp_region_noPanic ?_
    refine wp_region_only (S := (fun i => i = s0 ∨ i = s0 + 1 ∨ i = s0 + 1 + 1)) (.rd 0 (.rd 1 (.rd 2 (.ac 3 (.ac 4 (.ac 5 .done)))))) (by kernel_rfl) (by kernel_rfl) (fun _ _ d _ _ h => by cases d <;> exact h) (by simp only [Ord.map, nthOp, List.append]; rfl) ?_
    intro d0
    have hx0 : Ext W (Go.Proofs.YtdhpbofpomefoaaDoor.grow W d0) := Ext.grow (Ext.refl W) d0
    have v0 := (hx0.cells _ 0 v1).trans v0
    have x2 := (hx0.block s0 y2.lt).trans y2
    have x3 := (hx0.block (s0 + 1) y3.lt).trans y3
    have x4 := (hx0.block (s0 + 1 + 1) y4.lt).trans y4
    have HVR := hid (HVR.out.ext hx0)
    have HO := hid (HO.out.transExt hx0)
    have HK := hid ((hx0.block Dd (Array.getElem?_eq_some_iff.1 HK.out).1).trans HK.out)
    have hsz2 := hx0.size
    generalize Go.Proofs.YtdhpbofpomefoaaDoor.grow W d0 = W2 at v0 x2 x3 x4 HVR HO HK hsz2 ⊢
    clear hx0 y2 y3 y4 f2 f3 f4
    have x2b : Boxed W2 s0 30 (.slice none 0 0) := x2
    have x3b : Boxed W2 (s0 + 1) 3 (.int .i64 0) := x3
    have x4b : Boxed W2 (s0 + 1 + 1) 4 (.bool false) := x4
    have f2 := Boxed.frozen x2
    have f3 := Boxed.frozen x3
    have f4 := Boxed.frozen x4
    have x2 := Boxed.cell x2
    have x3 := Boxed.cell x3
    have x4 := Boxed.cell x4
    have v2 : s0 + 1 + 1 + 1 < W2.heap.size := by omega
    refine only_read (by rfl) (fun K hK => ?_); refine quiet_load1 30 _ rfl (s0 + 1 + 1 + 1) 0 rfl (.slice Av acc.length cv) _ (fun w' hw' => (hw'.cells (s0 + 1 + 1 + 1) 0 v2 (by omega)).trans v0) Tryd.underlying30 rfl ?_; refine hK _ ?_; clear hK K; simp only [Act.put, List.setIfInBounds_toArray, List.set_cons_zero, List.set_cons_succ]
    refine only_read (by rfl) (fun K hK => ?_); refine quiet_load1 30 _ rfl (s0 + 1 + 1 + 1) 0 rfl (.slice Av acc.length cv) _ (fun w' hw' => (hw'.cells (s0 + 1 + 1 + 1) 0 v2 (by omega)).trans v0) Tryd.underlying30 rfl ?_; refine hK _ ?_; clear hK K; simp only [Act.put, List.setIfInBounds_toArray, List.set_cons_zero, List.set_cons_succ]
    refine only_read (by rfl) (fun K hK => ?_); go_big_quiet_op; refine ⟨_, fun _ _ => rfl, ?_⟩; refine hK _ ?_; clear hK K
    refine only_act (by rfl) (fun K hK => ?_)
    go_wp2_with fail
    refine ⟨_, Only.refl _ _, (by repeat (first | (with_reducible exact Only.refl _ _) | (with_reducible refine Only.setCell ?_ (.inl (by first | exact .inl rfl | exact .inr (.inl rfl) | exact .inr (.inr rfl))) _))), ?_⟩
    refine only_act (by rfl) (fun K hK => ?_)
    go_wp2_with fail
    refine ⟨_, Only.refl _ _, (by repeat (first | (with_reducible exact Only.refl _ _) | (with_reducible refine Only.setCell ?_ (.inl (by first | exact .inl rfl | exact .inr (.inl rfl) | exact .inr (.inr rfl))) _))), ?_⟩
    refine only_act (by rfl) (fun K hK => ?_)
    go_wp2_with fail
    refine ⟨_, Only.refl _ _, (by repeat (first | (with_reducible exact Only.refl _ _) | (with_reducible refine Only.setCell ?_ (.inl (by first | exact .inl rfl | exact .inr (.inl rfl) | exact .inr (.inr rfl))) _))), ?_⟩
    refine only_nil ?_
    refine NoPanic.normal ?_
    clear v0 x2 x3 x4 f2 f3 f4 v2
    obtain ⟨W5, hW5⟩ : ∃ W5, ((W2.setCell ⟨s0, 0, none⟩ (.slice Av acc.length cv)).setCell ⟨s0 + 1, 0, none⟩ (.int .i64 acc.length)).setCell ⟨s0 + 1 + 1, 0, none⟩ (.bool true) = W5 := ⟨_, rfl⟩
    have hO5 : Only (fun i => i = s0 ∨ i = s0 + 1 ∨ i = s0 + 1 + 1) W2 W5 := by rw [← hW5]; exact (by repeat (first | (with_reducible exact Only.refl _ _) | (with_reducible refine Only.setCell ?_ (.inl (by first | exact .inl rfl | exact .inr (.inl rfl) | exact .inr (.inr rfl))) _)))
    have b2 : Boxed W5 s0 30 (.slice Av acc.length cv) := by rw [← hW5]; exact ((x2b.set _).other (by omega) _).other (by omega) _
    have b3 : Boxed W5 (s0 + 1) 3 (.int .i64 acc.length) := by rw [← hW5]; exact ((x3b.other (by omega) _).set _).other (by omega) _
    have b4 : Boxed W5 (s0 + 1 + 1) 4 (.bool true) := by rw [← hW5]; exact ((x4b.other (by omega) _).other (by omega) _).set _
    rw [hW5]
    clear hW5 x2b x3b x4b
    gi_wp2
    refine ⟨by simp, .inl ⟨_, _, rfl, run_takeDeferred (ds := []) ?hkk, ?fin⟩⟩
    case hkk => exact (hO5.block Dd (Array.getElem?_eq_some_iff.1 HK.out).1 (by omega)).trans HK.out
    case fin =>
      have hp : Only (fun i => i = Dd) W5 (W5.putObj Dd (.deferred none)) := grownOnly (grownBy_putObj' W5 Dd _) fun g e => by cases e; rfl
      have d2 := Boxed.cell ((hp.block s0 b2.lt (by omega)).trans b2)
      have d3 := Boxed.cell ((hp.block (s0 + 1) b3.lt (by omega)).trans b3)
      have d4 := Boxed.cell ((hp.block (s0 + 1 + 1) b4.lt (by omega)).trans b4)
      have hlk := (Array.getElem?_eq_some_iff.1 HK.out).1
      have hfo : ownsAt (W5.putObj Dd (.deferred none)) (s0 + 5) 23 4 (.slice Av acc.length cv) acc.length (rowF insC acc) := (HVR.out.only hO5 fun g hg => by have := (HVR.out.lt g hg).1; omega).only hp fun g hg e => by
        have := ownsAt_isCells HVR.out hg (.deferred (some [])) (by rw [e]; exact HK.out)
        cases this
      have hfx : Ext w (W5.putObj Dd (.deferred none)) := Ext.only (Ext.only (Ext.only hE0.out HO.out fun i h => by omega) hO5 fun i h => by omega) hp fun i h => by omega
      refine ⟨.tuple #[.slice Av acc.length cv, .int .i64 acc.length, .bool true], by simp [results, Tryd.results16, go_sem, d2, d3, d4], _, by rw [HR.out], hid ?_, hid hfx⟩
      rw [HR.out, hs0]
      exact ownsAt_mono hfo (by omega)
  case stop =>
    rintro D c pre W hD ⟨more, hmo⟩ ⟨hc, nn, hb2, hb3, hb4, hnl, hrd, hO⟩ hK
    obtain rfl : c = .ret := by
      cases c <;> first | rfl | exact hc.elim
    clear hc
    have hsz := hO.size
    have hR : readL valT s = ([], nn, false) := by rw [readL_rdC, hmo, hrd]
    have HR := hid hR
    have HK := hid hK
    clear hrd hR hnl hK
    gi_wp2
    refine ⟨by simp, .inl ⟨_, _, rfl, run_takeDeferred (ds := []) ?hkk, ?fin⟩⟩
    case hkk => exact HK.out
    case fin =>
      have hp : Only (fun i => i = D) W (W.putObj D (.deferred none)) := grownOnly (grownBy_putObj' W D _) fun g e => by cases e; rfl
      have d2 := Boxed.cell ((hp.block s0 hb2.lt (by omega)).trans hb2)
      have d3 : (W.putObj D (.deferred none)).cell? ⟨s0 + 1, 0, none⟩ = some (.int .i64 nn) := Boxed.cell (t := 3) ((hp.block (s0 + 1) hb3.lt (by omega)).trans hb3)
      have d4 : (W.putObj D (.deferred none)).cell? ⟨s0 + 1 + 1, 0, none⟩ = some (.bool false) := Boxed.cell (t := 4) ((hp.block (s0 + 1 + 1) hb4.lt (by omega)).trans hb4)
      have hfx : Ext w (W.putObj D (.deferred none)) := Ext.only (Ext.only hE0.out hO fun i h => by omega) hp fun i h => by omega
      refine ⟨.tuple #[.slice none 0 0, .int .i64 nn, .bool false], by simp [results, Tryd.results16, go_sem, d2, d3, d4], _, by rw [HR.out], hid ?_, hid hfx⟩
      rw [HR.out]
      exact ownsAt_nil _ _ _ _

end Go.Proofs.YtdhpbofpomefoaaDoor
