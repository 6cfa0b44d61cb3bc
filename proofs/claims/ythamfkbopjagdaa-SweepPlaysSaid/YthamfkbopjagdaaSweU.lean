/- Layer 10: Step, and where the list lies. -/
import Derived.Test.YthamfkbopjagdaaSweL
namespace Go.Proofs.Ythamfkbopjagdaa
set_option linter.unusedSimpArgs false
set_option linter.unusedVariables false
open Go.RowKit

attribute [local go_sem] Oper.semAt_some
theorem StepI.turnZ {w W0 : World} {q g s p pq n mm s0 : Nat} {B : Nat → Int} {T D P : Nat → Bool} {gone : Nat} {L0 : List Nat} {Z : Nat → Prop} (hzq : Z pq) (hZ : W0.heap.size = s0 + 4) (hs : s < s0) (hL0 : ∀ x ∈ L0, x < n) (pre : List Nat) (V V' : World) (h : StepI w W0 q g s p pq n mm s0 B T D P gone L0 pre V) (k : TnN (fun i => i = s ∨ i = g ∨ Z i ∨ i = s0 + 1 ∨ s0 + 4 ≤ i) s L0 V V') :
    StepI w W0 q g s p pq n mm s0 B T D P gone L0 pre V' := by
  obtain ⟨⟨A1, ca1, L1, h1, h2⟩, b1, b2, hO⟩ := h
  obtain ⟨A', ca', L', rfl, k1, k2, k3, k4⟩ := k
  have hx : ∀ v, Only (· = s) V (V.setCell ⟨s, 3, none⟩ v) := fun v => Only.setCell (S := (· = s)) (Only.refl _ _) (.inl rfl) v
  refine ⟨⟨A', ca', L', h1.own ((h1.h3.setLeft rfl k1 k2 (fun b o e h => k3 b o e (.inl h))) (fun b o e => Nat.lt_of_lt_of_le (Nat.lt_of_not_le fun h => k3 b o e (.inr (.inr (.inr (.inr h))))) (hZ ▸ hO.size))) (hx _) (fun b o e => ⟨fun h => k3 b o e (.inr (.inl h)), fun h => k3 b o e (.inr (.inr (.inl (by rw [h]; exact hzq))))⟩) (fun x hx => hL0 x (k4 x hx)), fun b o e => ?_⟩, ?_, ?_, ?_⟩
  · have := k3 b o e
    constructor
    · exact Nat.lt_of_not_le fun h => this (.inr (.inr (.inr (.inr h))))
    · exact fun h => this (.inr (.inr (.inr (.inl h))))
  · exact ((hx _).block s0 b1.lt (by omega)).trans b1
  · exact ((hx _).block (s0 + 1) b2.lt (by omega)).trans b2
  · exact Only.setCell hO (.inl (.inl rfl)) _
set_option maxRecDepth 100000 in
set_option maxHeartbeats 4000000 in
theorem stepZZ_ (Z : Nat → Prop) (w W : World) (q g s p pq n mm : Nat) (B : Nat → Int) (T D P : Nat → Bool)  (A : Option Addr) (ca : Nat) (L : List Nat) (gone : Nat) (h : SWB w W q g s p pq n mm B T D P true A ca L gone) (hzq : Z pq) (hzl : ∀ i, Z i → i < W.heap.size) (hzA : ∀ b o, A = some ⟨b, o, none⟩ → ¬ Z b) (r m : Nat) (pages : Int) (hm : L.length = m) (hm1 : m ≤ 1000000) (hpg : 1 ≤ pages) (hr : r ≤ m ∧ ((m : Int) ≤ pages ∧ r = m ∨ pages ≤ (m : Int) ∧ (r : Int) = pages)) (hgone : gone + 16 * m ≤ 4611686018427387904) :
    Calls Try.prog 24 #[.pointer (some ⟨s, 0, none⟩), .int .i64 pages] W fun e W' => ∃ A' ca', e = .returned (.int .i64 (r : Int)) ∧ Hid (SWB w W' q g s p pq n mm B (stS n mm P B (T, D, gone) (L.take r)).1 (stS n mm P B (T, D, gone) (L.take r)).2.1 P (decide (r < m)) A' ca' (L.drop r) (stS n mm P B (T, D, gone) (L.take r)).2.2) ∧ Hid (Only (Gs g s) W W') ∧ Hid (∀ b o, A' = some ⟨b, o, none⟩ → ¬ Z b) := by
  have HZL := hid hzl
  have HZA := hid hzA
  have HZQ := hid hzq
  clear hzl hzA hzq
  refine (callsIn_wide (n := 6)).1 ?_
  refine callsIn_of_wp_marks Try.func24 rfl trivial ?_ rfl
  simp only [Try.ntmps24]
  simp only [List.size_toArray, List.length_cons, List.length_nil, Nat.reduceAdd, Nat.reduceSub, Array.replicate_succ, Array.replicate_zero, List.push_toArray, List.append_toArray, List.nil_append, List.cons_append]
  have HS := hid h
  have HM := hid hm
  have HR := hid hr
  have HGB := hid hgone
  have hpg' : ¬ pages < 1 := by omega
  have c2 := h.h3.c2
  have hlt := h.h3.lt
  clear h hm hr hgone
  gi_wp2_with ((try refine ⟨trivial, ?_⟩); gi_at_call 56; refine CallsIn.mono (callsIn_wide.2 (nextF_ _ _ _)) ?_; rintro e w1 ⟨rfl, rfl⟩)
  clear c2 hlt
  refine wpIn_gen (fun V => Hid (Ext W V) ∧ Hid (V.heap.size = W.heap.size + 4) ∧ Hid (Boxed V W.heap.size 35 (.pointer (some ⟨s, 0, none⟩))) ∧ Hid (Boxed V (W.heap.size + 1) 3 (.int .i64 0)) ∧ Hid (V.cell? ⟨W.heap.size + 2, 0, none⟩ = some (.pointer (some ⟨s, 0, none⟩))) ∧ Hid (V.cell? ⟨W.heap.size + 3, 0, none⟩ = some (.int .i64 pages)))
    ⟨hid (by repeat (first | (with_reducible exact Ext.refl _) | (with_reducible refine Ext.undrew ?_) | (with_reducible refine Ext.grow ?_ _) | (with_reducible refine Ext.drew ?_) | (with_reducible refine Ext.drewN ?_ _) | (with_reducible refine Ext.alloc ?_ _) | (with_reducible assumption) | ((with_reducible refine Ext.setCell ?_ ?_ _); rotate_left; (first | exact Nat.le_refl _ | ((try dsimp only); (try simp only [World.size_alloc, grow_size, World.size_setCell]); omega))))), hid (by simp), hid ?p1, hid ?p2, hid (by simp [go_sem]), hid (by simp [go_sem])⟩ ?_
  case p1 => exact (((Boxed.new W 35 (.pointer (some ⟨s, 0, none⟩))).alloc _).alloc _).alloc _
  case p2 =>
    have := ((Boxed.new (W.alloc (.cells #[.pointer (some ⟨s, 0, none⟩)] 35)) 3 (.int .i64 0)).alloc (.cells #[.pointer (some ⟨s, 0, none⟩)] 112)).alloc (.cells #[.int .i64 pages] 3)
    simpa using this
  rintro W0 ⟨hE0, hZ0, hB0, hB1, hc2, hc3⟩
  have HS0 := hid (HS.out.ext hE0.out)
  have HN0 : Hid (q < W.heap.size ∧ g < W.heap.size ∧ s < W.heap.size ∧ p < W.heap.size ∧ pq < W.heap.size ∧ w.heap.size ≤ W.heap.size) := hid ⟨HS.out.h1.1.ltq, HS.out.h1.1.ltg, HS.out.h3.lt, HS.out.h2.ltp, HS.out.h2.ltq, HS.out.h1.2.1.size⟩
  have HA0 : Hid (∀ b o, A = some ⟨b, o, none⟩ → b < W.heap.size) := hid HS.out.h3.ab
  obtain ⟨s0, hs0⟩ : ∃ x, W.heap.size = x := ⟨_, rfl⟩
  rw [hs0] at hZ0 hB0 hB1 hc2 hc3 HN0 HA0 ⊢
  have HZW := hid hs0
  clear hs0
  obtain ⟨n1, n2, n3, n4, n5, n6⟩ := HN0.out
  have hZ := hZ0.out
  have HZL0 : Hid (∀ i, Z i → i < s0) := hid (fun i hi => by have := HZL.out i hi; have := HZW.out; omega)
  have HLB := hid HS0.out.lb
  have hL : LeftAt W0 s L m W0.heap.size (fun i => i = s ∨ i = g ∨ Z i ∨ i = s0 + 1 ∨ s0 + 4 ≤ i) := ⟨HM.out, HS0.out.h3.fz 3, A, ca, by rw [← HM.out]; exact HS0.out.h3.c3, HS0.out.h3.rd, by rw [← HM.out]; exact HS0.out.h3.lc.1, HS0.out.h3.lc.2, fun b o e => by
    have h1 := HA0.out b o e
    have h2 := HS0.out.h3.ns b o e
    have h3 := HS0.out.la b o e
    refine ⟨by omega, ?_⟩
    rintro (c | c | c | c | c)
    · exact h2 c
    · exact h3.1 c
    · exact HZA.out b o e c
    · omega
    · omega⟩
  refine wpIn_rangeFunc_turns rfl (by omega) (gf := 70) (lb := #[.pointer (some ⟨s0 + 1 + 1 + 1, 0, none⟩), .pointer (some ⟨s0 + 1 + 1, 0, none⟩)]) rfl trivial (enters_of Try.func70 (by kernel_rfl) rfl)
    (nextS_ 5 (by omega) s (s0 + 1 + 1) (s0 + 1 + 1 + 1) (fun i => i = s ∨ i = g ∨ Z i ∨ i = s0 + 1 ∨ s0 + 4 ≤ i) ⟨.inl rfl, by rintro (c | c | c | c | c) <;> (first | omega | (have := HZL0.out _ c; omega)), by rintro (c | c | c | c | c) <;> (first | omega | (have := HZL0.out _ c; omega))⟩ r m n pages hpg HR.out L HM.out hm1 HLB.out W0 hc2.out (by omega) hc3.out (by omega) (by omega) hL)
    (fun h k => h.trans k) (fun V l ob o' hl _ _ _ => keepN_b (s0 := s0) (fun i hi => ?x1) (by omega) n3 V l o' hl)
    (fun V V' k i ob hi ho => ?x2) (fun xs V l ob o' hl ho hc k => ?x3) (Below.refl _ _) (fun _ => rfl)
    (fun pre V => StepI w W0 q g s p pq n mm s0 B T D P gone L pre V) (StepI.own hZ n6 n1 n2 n3 n4 n5) (fun pre V V' hi k => StepI.turnZ HZQ.out hZ n3 HLB.out pre V V' hi k)
    ⟨⟨A, ca, L, HS0.out, fun b o e => by have := HA0.out b o e; omega⟩, hB0.out, hB1.out, Only.refl _ _⟩
    (fun x a' V => a' = { tmps := #[.pointer (some ⟨s, 0, none⟩), .int .i64 pages, .pointer (some ⟨s0, 0, none⟩), undef, .int .i64 0, .pointer (some ⟨s0 + 1, 0, none⟩), .int .i64 ((x % n : Nat) : Int), .pointer (some ⟨s, 0, none⟩), .pointer (some ⟨s, 0, none⟩), .pointer (some ⟨s, 0, none⟩), .pointer (some ⟨s, 2, none⟩), .bool true, .bool false, .bool false, .int .i64 pages, .bool false, .bool false, .pointer (some ⟨s, 0, none⟩), .pointer (some ⟨s, 0, none⟩), .pointer (some ⟨s, 0, none⟩), .int .i64 pages, .func (.func 70) #[] #[.pointer (some ⟨s0 + 1 + 1 + 1, 0, none⟩), .pointer (some ⟨s0 + 1 + 1, 0, none⟩)], .int .i64 ((x % n : Nat) : Int), undef, undef, undef, undef, undef, undef, undef, undef, undef, undef, undef, undef, undef, undef, undef, undef, undef, undef, undef], defers := [] })
    ?ax ?assign ?body ?done
  case x1 => exact .inr (.inr (.inr (.inr (by omega))))
  case x2 =>
    obtain ⟨A', ca', L', rfl, _⟩ := k
    rw [heap_setCell, if_neg (by omega)]
    exact ho
  case x3 => exact ⟨k.1, k.2.kept (keepN_b (s0 := s0) (fun i hi => .inr (.inr (.inr (.inr (by omega))))) (by omega) n3 V l o' hl)⟩
  case ax =>
    rintro x a' ⟨⟩ V V' row h hgr hr
    exact h
  case assign =>
    rintro l0 pre x V K hI hK
    gi_wp2
    exact hK _ _ (KeepsFrom.refl _ _) ⟨Only.refl _ _, rfl, rfl⟩ hI rfl
  case body =>
    rintro l0 pre x a' V hl0 hI rfl hlen
    obtain ⟨⟨A1, ca1, L1, h1, h2⟩, b1, b2, hO⟩ := hI
    have hn1 := h1.h1.1.bd.1
    obtain ⟨xx, hxx⟩ : ∃ y, x % n = y := ⟨_, rfl⟩
    have hxn : xx < n := by rw [← hxx]; exact Nat.mod_lt _ hn1
    have HXX := hid hxx
    rw [hxx]
    clear hxx
    have HGN : Hid ((stS n mm P B (T, D, gone) (pre.map (· % n))).2.2 ≤ 4611686018427387904) := hid (by
      have e1 := stS_le n mm P B (pre.map (· % n)) (T, D, gone)
      have e2 := HGB.out
      rw [List.length_map] at e1
      simp only at e1
      omega)
    have HB1 := hid h1
    have c1 := b1.cell
    have hvs := hO.size
    have l1 : s0 < V.heap.size := b1.lt
    have hpl : (pre.length : Int) ≤ 1000000 := by omega
    have HO := hid hO
    have H2 := hid h2
    have B2 := hid b2
    have B1 := hid b1
    clear h1 h2 hO b1 b2
    gi_wp2
    refine ⟨trivial, ?_⟩
    (refine CallsIn.inRound l0 (CallsIn.mono (callsIn_wide.2 (swpage_ w _ q g s p pq n mm B _ _ P true A1 ca1 L1 _ HB1.out xx hxn HGN.out)) ?_); rintro e V1 ⟨rfl, HS1, HO1⟩; have e1 := ((HO1.out.block (s0 + 1) B2.out.lt (by rintro (c | c) <;> omega)).trans B2.out : Boxed V1 (s0 + 1) 3 (.int .i64 (pre.length : Int))); have e1c := Boxed.cell e1; have e1f := Boxed.frozen e1; clear e1)
    (try simp only [])
    gi_wp2
    have hfin : ∀ y : Int, y = ((pre ++ [x]).length : Int) → KeepsFrom W0.heap.size V (V1.setCell ⟨s0 + 1, 0, none⟩ (.int .i64 y)) ∧ KpN (fun i => i = s ∨ i = g ∨ Z i ∨ i = s0 + 1 ∨ s0 + 4 ≤ i) s V (V1.setCell ⟨s0 + 1, 0, none⟩ (.int .i64 y)) ∧ StepI w W0 q g s p pq n mm s0 B T D P gone L (pre ++ [x]) (V1.setCell ⟨s0 + 1, 0, none⟩ (.int .i64 y)) := by
      rintro y rfl
      have hx1 : Only (· = s0 + 1) V1 (V1.setCell ⟨s0 + 1, 0, none⟩ (.int .i64 ((pre ++ [x]).length : Int))) := Only.setCell (S := (· = s0 + 1)) (Only.refl _ _) (.inl rfl) _
      have hx2 : Only (fun i => Gs g s i ∨ i = s0 + 1) V (V1.setCell ⟨s0 + 1, 0, none⟩ (.int .i64 ((pre ++ [x]).length : Int))) := Only.setCell (Only.trans (S := fun i => Gs g s i ∨ i = s0 + 1) (Only.refl _ _) HO1.out (fun i h => .inl (.inl h))) (.inl (.inr rfl)) _
      have e3 := HS1.out.h3.c3
      have e4 := HB1.out.h3.c3
      have bb2 : Boxed V1 (s0 + 1) 3 (.int .i64 (pre.length : Int)) := (HO1.out.block (s0 + 1) B2.out.lt (by rintro (c | c) <;> omega)).trans B2.out
      have bb1 : Boxed V1 s0 35 (.pointer (some ⟨s, 0, none⟩)) := (HO1.out.block s0 B1.out.lt (by rintro (c | c) <;> omega)).trans B1.out
      refine ⟨⟨hx2.size, fun k ob hk ho _ => (hx2.block k (Array.getElem?_eq_some_iff.1 ho).1 (by rintro ((c | c) | c) <;> omega)).trans ho⟩, ⟨?_, ?_, ?_⟩, ⟨A1, ca1, L1, ?_, H2.out⟩, ?_, ?_, ?_⟩
      · refine ⟨hx2.os, hx2.tape, hx2.output, hx2.size, fun k hk hn => hx2.block k hk ?_⟩
        rintro ((c | c) | c)
        · exact hn (.inr (.inl c))
        · exact hn (.inl c)
        · exact hn (.inr (.inr (.inr (.inl c))))
      · rw [cell_setCell_far _ _ _ _ _ _ (by omega), e3, e4]
      · rw [World.frozen?_setCell, HS1.out.h3.fz 3, HB1.out.h3.fz 3]
      · rw [List.map_append, List.map_singleton, stS_snoc, HXX.out]
        exact HS1.out.onlyS hx1 ⟨by omega, by omega, by omega, by omega, by omega⟩ (fun b o e => (H2.out b o e).2) (fun i h => by omega)
      · exact (hx1.block s0 bb1.lt (by omega)).trans bb1
      · exact bb2.set _
      · exact HO.out.trans' ⟨hx2.os, hx2.tape, hx2.output, hx2.size, fun k hk hn => hx2.block k hk (by
          rintro ((c | c) | c)
          · exact hn (.inr (.inl c))
          · exact hn (.inl c)
          · exact hn (.inr (.inr (.inl c))))⟩
    exact hfin _ (by simp)
  case done =>
    rintro Dd ys V hD ⟨rfl, hLeft⟩ ⟨⟨A1, ca1, L1, h1, h2⟩, b1, b2, hO⟩ hK
    have hmap : (L.take r).map (· % n) = L.take r := by
      conv => rhs; rw [← List.map_id (L.take r)]
      exact List.map_congr_left fun x hx => Nat.mod_eq_of_lt (HLB.out x (List.mem_of_mem_take hx))
    rw [hmap] at h1
    obtain ⟨k1, k2, A2, ca2, k3, k4, k5, k6, k7⟩ := hLeft
    have hrm : r ≤ m := HR.out.1
    have HS9 : Hid (SWB w V q g s p pq n mm B (stS n mm P B (T, D, gone) (L.take r)).1 (stS n mm P B (T, D, gone) (L.take r)).2.1 P true A2 ca2 (L.drop r) (stS n mm P B (T, D, gone) (L.take r)).2.2) := hid (h1.own (runs' := true) (A' := A2) (ca' := ca2) (L' := L.drop r) ⟨h1.h3.lt, h1.h3.c0, h1.h3.c1, h1.h3.c2, by rw [k1]; exact k3, h1.h3.c4, h1.h3.fz, k4, ⟨by rw [k1]; exact k5, k6⟩, fun b o e h => (k7 b o e).2 (.inl h), fun b o e => Nat.lt_of_lt_of_le (k7 b o e).1 hO.size⟩ (Only.refl _ _) (fun b o e => ⟨fun h => (k7 b o e).2 (.inr (.inl h)), fun h => (k7 b o e).2 (.inr (.inr (.inl (by rw [h]; exact HZQ.out))))⟩) (fun x hx => HLB.out x (List.mem_of_mem_drop hx)))
    have hlen : (L.take r).length = r := by rw [List.length_take, HM.out]; omega
    rw [hlen] at b2
    have hsz := hO.size
    obtain ⟨mr, hmr⟩ : ∃ x, m - r = x := ⟨_, rfl⟩
    have HMR := hid hmr
    rw [hmr] at k3
    have HO9 := hid hO
    have HA2 : Hid (∀ b o, A2 = some ⟨b, o, none⟩ → b < s0 + 4) := hid (fun b o e => by have := (k7 b o e).1; omega)
    have HZ9 : Hid (∀ b o, A2 = some ⟨b, o, none⟩ → ¬ Z b) := hid (fun b o e h => (k7 b o e).2 (.inr (.inr (.inl h))))
    clear h1 h2 k1 k4 k5 k6 k7 hmap hlen hmr hO
    gi_wp2
    refine wpIn_wide.2 ?_
    refine wp_region_noPanic ?_
    refine wp_region_turn (q := s) (.rd 0 (.rd 1 (.rd 2 (.rd 3 (.rd 4 (.ac 5 (.rd 6 (.rd 7 (.rd 8 (.rd 9 (.rd 10 (.ac 11 .done)))))))))))) (by kernel_rfl) (by kernel_rfl) (fun _ _ d _ _ h => by cases d <;> exact h) (by simp only [Ord.map, nthOp, List.append]; rfl) ?_
    intro d2
    have hEd := Ext.grow (Ext.refl V) d2
    have HS8 := hid (HS9.out.ext hEd)
    have y0 := (hEd.block s0 b1.lt).trans b1
    have y1 := (hEd.block (s0 + 1) b2.lt).trans b2
    have y3 := (hEd.cells s 3 (by omega)).trans k3
    have hK8 : (Go.Proofs.Ythamfkbopjagdaa.grow V d2).heap[Dd]? = some (.deferred (some [])) := (hEd.block Dd (Array.getElem?_eq_some_iff.1 hK).1).trans hK
    have HO8 := hid (HO9.out.transExt hEd)
    generalize Go.Proofs.Ythamfkbopjagdaa.grow V d2 = W8 at y0 y1 y3 HS8 hK8 HO8 ⊢
    clear HS9 b1 b2 k2 k3 hK hEd HO9 hsz
    have z0 : W8.cell? ⟨s0, 0, none⟩ = some (.pointer (some ⟨s, 0, none⟩)) := Boxed.cell y0
    have z1 : W8.cell? ⟨s0 + 1, 0, none⟩ = some (.int .i64 (r : Int)) := Boxed.cell y1
    have z2 := HS8.out.h3.c2
    have f2 := HS8.out.h3.fz 2
    have l0 : s0 < W8.heap.size := Boxed.lt y0
    have l1 : s0 + 1 < W8.heap.size := Boxed.lt y1
    have l2 : s < W8.heap.size := by omega
    have ne0 : ¬ s0 = s := by omega
    have ne1 : ¬ s0 + 1 = s := by omega
    have hfin : ∀ bb, bb = decide (r < m) → Hid (SWB w ((W8.setCell ⟨s, 2, none⟩ (.bool bb)).putObj Dd (.deferred none)) q g s p pq n mm B (stS n mm P B (T, D, gone) (L.take r)).1 (stS n mm P B (T, D, gone) (L.take r)).2.1 P (decide (r < m)) A2 ca2 (L.drop r) (stS n mm P B (T, D, gone) (L.take r)).2.2) ∧ Hid (Only (Gs g s) W ((W8.setCell ⟨s, 2, none⟩ (.bool bb)).putObj Dd (.deferred none))) := by
      rintro bb rfl
      have hq : Only (fun i => i = Dd) (W8.setCell ⟨s, 2, none⟩ (.bool (decide (r < m)))) ((W8.setCell ⟨s, 2, none⟩ (.bool (decide (r < m)))).putObj Dd (.deferred none)) := grownOnly (grownBy_putObj' _ Dd _) fun r e => by cases e; rfl
      have hs1 : Only (· = s) W8 (W8.setCell ⟨s, 2, none⟩ (.bool (decide (r < m)))) := Only.setCell (S := (· = s)) (Only.refl _ _) (.inl rfl) _
      have h8 := HS8.out.own (HS8.out.h3.setRuns (decide (r < m))) hs1 HS8.out.la HS8.out.lb
      refine ⟨hid (h8.onlyS hq ⟨by omega, by omega, by omega, by omega, by omega⟩ (fun b o e c => ?_) (fun i c => by omega)), hid ?_⟩
      · have := HA2.out b o e
        omega
      · refine Only.trans (Only.trans (Only.trans (S := Gs g s) (Only.ofExt hE0.out) HO8.out ?_) hs1 (fun i c => .inl (.inr c))) hq (fun i c => .inr (by have := HZW.out; omega))
        rintro i (c | c | c | c)
        · exact .inl (.inr c)
        · exact .inl (.inl c)
        · exact .inr (by have := HZW.out; omega)
        · exact .inr (by have := HZW.out; omega)
    repeat' (first | (refine turn_read (by rfl) (fun K hK => ?_); go_big_quiet_op; refine hK _ ?_; clear hK K) | (refine turn_act (by rfl) (fun K hK => ?_); go_wp2_with fail; refine ⟨_, Only.refl _ _, (by first | exact Only.refl _ _ | exact Only.setCell (S := (· = s)) (Only.refl _ _) (.inl rfl) _), ?_⟩))
    refine turn_nil ?_
    refine NoPanic.normal ?_
    gi_wp2
    refine ⟨by simp, .inl ⟨_, _, rfl, run_takeDeferred (ds := []) ?hkk, ?fin⟩⟩
    case hkk => exact ((Only.setCell (S := (· = s)) (Only.refl _ W8) (.inl rfl) _).block Dd (Array.getElem?_eq_some_iff.1 hK8).1 (by omega)).trans hK8
    case fin =>
      have := hfin _ (show decide (0 < mr) = decide (r < m) from decide_eq_decide.2 (by have := HMR.out; omega))
      exact ⟨_, results_tmp rfl _ _ _, A2, ca2, rfl, this.1, this.2, HZ9⟩
/-- What Step leaves: as StZ, told by the function; and the list lies apart from Z. -/
def StX (w W : World) (q g s p pq n mm : Nat) (B : Nat → Int) (T D P : Nat → Bool) (g0 : Nat) (L : List Nat) (runs : Bool) (Z : Nat → Prop) (c : Nat) (r : Bool) (e : Ending) (W' : World) : Prop :=
  ∃ (A' : Option Addr) (ca' : Nat), e = .returned (.int .i64 (c : Int)) ∧ Hid (SWB w W' q g s p pq n mm B (stS n mm P B (T, D, g0) (L.take c)).1 (stS n mm P B (T, D, g0) (L.take c)).2.1 P r A' ca' (L.drop c) (stS n mm P B (T, D, g0) (L.take c)).2.2) ∧ Hid (Only (Gs g s) W W') ∧ Hid (∀ b o, A' = some ⟨b, o, none⟩ → ¬ Z b)
/-- How many pages are swept, and whether it runs then. -/
def stC (runs : Bool) (m : Nat) (k : Int) : Nat := if runs = true ∧ 1 ≤ k then (if (m : Int) ≤ k then m else k.toNat) else 0
def stR (runs : Bool) (m : Nat) (k : Int) : Bool := if runs = true ∧ 1 ≤ k then decide (stC runs m k < m) else runs
theorem stC_le (runs : Bool) (m : Nat) (k : Int) : stC runs m k ≤ m := by
  unfold stC
  split
  · split <;> omega
  · omega
set_option maxRecDepth 100000 in
set_option maxHeartbeats 4000000 in
theorem stepX_ (Z : Nat → Prop) (w W : World) (q g s p pq n mm : Nat) (B : Nat → Int) (T D P : Nat → Bool) (runs : Bool) (A : Option Addr) (ca : Nat) (g0 : Nat) (L : List Nat) (h : SWB w W q g s p pq n mm B T D P runs A ca L g0) (hzq : Z pq) (hzl : ∀ i, Z i → i < W.heap.size) (hzA : ∀ b o, A = some ⟨b, o, none⟩ → ¬ Z b) (hL : L.length ≤ 1000000) (hg : g0 ≤ 1000000000) (k : Int) :
    Calls Try.prog 24 #[.pointer (some ⟨s, 0, none⟩), .int .i64 k] W fun e W' => StX w W q g s p pq n mm B T D P g0 L runs Z (stC runs L.length k) (stR runs L.length k) e W' := by
  by_cases hn : runs = true ∧ 1 ≤ k
  · obtain ⟨rfl, hk⟩ := hn
    have hr : stC true L.length k ≤ L.length ∧ (((L.length : Nat) : Int) ≤ k ∧ stC true L.length k = L.length ∨ k ≤ ((L.length : Nat) : Int) ∧ ((stC true L.length k : Nat) : Int) = k) := by
      refine ⟨stC_le _ _ _, ?_⟩
      unfold stC
      rw [if_pos ⟨rfl, hk⟩]
      by_cases c : ((L.length : Nat) : Int) ≤ k
      · rw [if_pos c]; exact .inl ⟨c, rfl⟩
      · rw [if_neg c]; exact .inr ⟨by omega, by omega⟩
    have hR : stR true L.length k = decide (stC true L.length k < L.length) := by unfold stR; rw [if_pos ⟨rfl, hk⟩]
    rw [hR]
    refine (stepZZ_ Z w W q g s p pq n mm B T D P A ca L g0 h hzq hzl hzA (stC true L.length k) L.length k rfl hL hk hr (by omega)).mono ?_
    rintro e W' ⟨A', ca', rfl, h1, h2, h3⟩
    exact ⟨A', ca', rfl, h1, h2, h3⟩
  · have hC : stC runs L.length k = 0 := by unfold stC; rw [if_neg hn]
    have hR : stR runs L.length k = runs := by unfold stR; rw [if_neg hn]
    rw [hC, hR]
    refine (step_no w W q g s p pq n mm B T D P runs A ca L g0 h k ?_).mono ?_
    · by_cases c : runs = true
      · exact .inr (by have : ¬ 1 ≤ k := fun x => hn ⟨c, x⟩; omega)
      · exact .inl (by simpa using c)
    · rintro e W' ⟨rfl, h1, h2⟩
      exact ⟨A, ca, rfl, h1, hid (Only.ofExt h2.out), hid hzA⟩

end Go.Proofs.Ythamfkbopjagdaa
