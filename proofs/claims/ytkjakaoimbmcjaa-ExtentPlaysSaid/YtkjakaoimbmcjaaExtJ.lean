/- Layer 12: Take. -/
import Derived.Test.YtkjakaoimbmcjaaExtI
namespace Go.Proofs.Ytkjakaoimbmcjaa
set_option linter.unusedSimpArgs false
set_option linter.unusedVariables false
open Go.RowKit

theorem prList_at2 (l : List Pr) (j : Nat) (hj : j < l.length * 2) : (prList l)[j]? = (l[j / 2]'(by omega)).cells[j % 2]? := by
  have := prList_at l (j / 2) (j % 2) (by omega) (by omega)
  rwa [show j / 2 * 2 + j % 2 = j by omega] at this
theorem prList_setLo (l : List Pr) (k : Nat) (x : Int) (hk : k < l.length) (j : Nat) (hj : j < l.length * 2) : (prList (l.set k ⟨x, (l[k]).hi⟩))[j]? = if j = k * 2 then some (.int .i64 x) else (prList l)[j]? := by
  rw [prList_at2 _ j (by rw [List.length_set]; exact hj), prList_at2 l j hj, List.getElem_set]
  by_cases e : k = j / 2
  · subst e
    rw [if_pos rfl]
    rcases (show j % 2 = 0 ∨ j % 2 = 1 by omega) with h | h
    · rw [if_pos (by omega), h]; rfl
    · rw [if_neg (by omega), h]; rfl
  · rw [if_neg e, if_neg (by omega)]
theorem prList_setHi (l : List Pr) (k : Nat) (x : Int) (hk : k < l.length) (j : Nat) (hj : j < l.length * 2) : (prList (l.set k ⟨(l[k]).lo, x⟩))[j]? = if j = k * 2 + 1 then some (.int .i64 x) else (prList l)[j]? := by
  rw [prList_at2 _ j (by rw [List.length_set]; exact hj), prList_at2 l j hj, List.getElem_set]
  by_cases e : k = j / 2
  · subst e
    rw [if_pos rfl]
    rcases (show j % 2 = 0 ∨ j % 2 = 1 by omega) with h | h
    · rw [if_neg (by omega), h]; rfl
    · rw [if_pos (by omega), h]; rfl
  · rw [if_neg e, if_neg (by omega)]
theorem ownsAt.putCell {w : World} {base g a n cap off : Nat} {l m : List Pr} {u : Value} (h : ownsAt w base 38 2 (.slice (some ⟨g, a, none⟩) n cap) n (prList l)) (hl : l.length = n) (hm : m.length = n) (ho : off < n * 2) (hc : ∀ j, j < n * 2 → (prList m)[j]? = if j = off then some u else (prList l)[j]?) :
    ownsAt (w.setCell ⟨g, a + off, none⟩ u) base 38 2 (.slice (some ⟨g, a, none⟩) n cap) n (prList m) := by
  obtain ⟨o, cur, rfl, hb, hg, hn, hmx, hs, ht⟩ := h.raw
  have hs := hs.resolve_left (by omega)
  obtain ⟨ys, y1, y2, y3⟩ := setCells_row [u] (o * 2 + off) w cur hg
  refine ownsAt.of hb y1 hn hmx (by rw [y2, hs]) (by rw [prList_length, hm]) (fun j hj => ?_)
  rw [y3, hc j hj]
  by_cases e : j = off
  · subst e
    rw [if_pos rfl, if_pos ⟨by omega, by simp, by omega⟩, Nat.sub_self]
    rfl
  · rw [if_neg e, if_neg (by simp only [List.length_cons, List.length_nil]; omega), raw_at ht hj]
/-- What is left, when so much of the k-th run was taken. -/
def takeK (l : List Pr) (k : Nat) (n : Int) (hk : k < l.length) : List Pr := if (l[k]).len = n then l.eraseIdx k else l.set k ⟨(l[k]).lo + n, (l[k]).hi⟩
def tch (q : Nat) (v : Value) : Nat → Prop := fun i => i = q ∨ v.ownBlock = some i
set_option maxRecDepth 100000 in
set_option maxHeartbeats 4000000 in
theorem take_no1 (q base : Nat) (fr to : Int) (v : Value) (l : List Pr) (w : World) (h : Fr w q base fr to v l) (n : Int) (hn : n < 1) : Calls Try.prog 11 #[.pointer (some ⟨q, 0, none⟩), .int .i64 n] w fun e w' => e = .returned (.tuple #[.int .i64 0, .bool false]) ∧ Ext w w' := by
  clear h
  go_enter Try.func11, Try.ntmps11
  go_upto_region 1 with (fail)
  refine wp_gen (fun W => Hid (Ext w W) ∧ Hid (W.cell? ⟨w.heap.size, 0, none⟩ = some (.int .i64 n)) ∧ w.heap.size < W.heap.size) ⟨hid (Ext.alloc (Ext.refl w) _), hid (by simp [go_sem]), by simp⟩ ?_
  rintro W0 ⟨hx0, hB0, hBl⟩
  have hBc := hB0.out
  obtain ⟨B, hBe⟩ : ∃ x, w.heap.size = x := ⟨_, rfl⟩
  rw [hBe] at hBc hBl ⊢
  clear hB0
  go_wp2
  refine bodyPost_ret (v := .tuple #[.int .i64 0, .bool false]) (by simp [results, Try.results11, go_sem]) rfl ?_
  exact ⟨rfl, hx0.out⟩
theorem take_no2 (q base : Nat) (fr to : Int) (v : Value) (l : List Pr) (w : World) (h : Fr w q base fr to v l) (n : Int) (hn : 1 ≤ n) (hg0 : g16 n = false) : Calls Try.prog 11 #[.pointer (some ⟨q, 0, none⟩), .int .i64 n] w fun e w' => e = .returned (.tuple #[.int .i64 0, .bool false]) ∧ Ext w w' := by
  clear h
  have hg : [n].all g16 = false := by simp [hg0]
  have hn1 : ¬ n < 1 := by omega
  clear hg0
  go_enter Try.func11, Try.ntmps11
  go_upto_region 1 with (fail)
  refine wp_gen (fun W => Hid (Ext w W) ∧ Hid (W.cell? ⟨w.heap.size, 0, none⟩ = some (.int .i64 n)) ∧ w.heap.size < W.heap.size) ⟨hid (Ext.alloc (Ext.refl w) _), hid (by simp [go_sem]), by simp⟩ ?_
  rintro W0 ⟨hx0, hB0, hBl⟩
  have hBc := hB0.out
  obtain ⟨B, hBe⟩ : ∃ x, w.heap.size = x := ⟨_, rfl⟩
  rw [hBe] at hBc hBl ⊢
  clear hB0
  go_wp2_with (go_at_call 22; refine (gran_ (some ⟨W0.heap.size, 0, none⟩) 1 [n] _ (slAtNew W0 [.int .i64 n] _) (by simp)).mono ?_; rw [hg]; rintro e w1 ⟨rfl, hx1⟩)
  refine bodyPost_ret (v := .tuple #[.int .i64 0, .bool false]) (by simp [results, Try.results11, go_sem]) rfl ?_
  exact ⟨rfl, (hx0.out.trans (Ext.alloc (Ext.refl _) _)).trans hx1⟩
set_option maxRecDepth 100000 in
set_option maxHeartbeats 4000000 in
theorem take_no3 (q base : Nat) (fr to : Int) (v : Value) (l : List Pr) (w : World) (h : Fr w q base fr to v l) (hl : l.length ≤ 10000000) (ho : okF l) (n : Int) (hn : 1 ≤ n) (hg0 : g16 n = true) (hf : l.findIdx? (fits n) = none) : Calls Try.prog 11 #[.pointer (some ⟨q, 0, none⟩), .int .i64 n] w fun e w' => e = .returned (.tuple #[.int .i64 0, .bool false]) ∧ Ext w w' := by
  have hfa : fitAt n l = -1 := by unfold fitAt; rw [hf]
  obtain ⟨A, ca, rfl, hca, hnil⟩ := h.2.2.2.1.shape
  have HQ := hid h
  clear h
  have hg : [n].all g16 = true := by simp [hg0]
  have hn1 : ¬ n < 1 := by omega
  go_enter Try.func11, Try.ntmps11
  go_upto_region 1 with (fail)
  refine wp_gen (fun W => Hid (Ext w W) ∧ Hid (W.cell? ⟨w.heap.size, 0, none⟩ = some (.int .i64 n)) ∧ w.heap.size < W.heap.size) ⟨hid (Ext.alloc (Ext.refl w) _), hid (by simp [go_sem]), by simp⟩ ?_
  rintro W0 ⟨hx0, hB0, hBl⟩
  have hBc := hB0.out
  obtain ⟨B, hBe⟩ : ∃ x, w.heap.size = x := ⟨_, rfl⟩
  rw [hBe] at hBc hBl ⊢
  clear hB0
  go_upto_region 3 with (go_at_call 22; refine (gran_ (some ⟨W0.heap.size, 0, none⟩) 1 [n] _ (slAtNew W0 [.int .i64 n] _) (by simp)).mono ?_; rw [hg]; rintro e w1 ⟨rfl, hx1⟩)
  have hxw := hid ((hx0.out.trans (Ext.alloc (Ext.refl _) _)).trans hx1)
  have HQ1 := hid (HQ.out.ext hxw.out)
  have hBx := (Ext.alloc (Ext.refl W0) (.cells #[.int .i64 n] 3)).trans hx1
  have hB1 : w1.cell? ⟨B, 0, none⟩ = some (.int .i64 n) := (hBx.cells B 0 hBl).trans hBc
  have hBl1 : B < w1.heap.size := Nat.lt_of_lt_of_le hBl hBx.size
  have hqB : q < B := by have := HQ.out.1; omega
  have HGB : Hid (∀ g, (Value.slice A l.length ca).ownBlock = some g → g < B) := hid (fun g e => by have := (HQ.out.2.2.2.1.lt g e).2; omega)
  clear hx0 hx1 hBc hBl hBx HQ
  have hidx : ∀ w', w1 = w' → Calls Try.prog 23 #[.slice A l.length ca, .func (.func 24) #[] #[.pointer (some ⟨B, 0, none⟩)]] w' fun e w'' => e = .returned (.int .i64 (-1)) ∧ Ext w' w'' := by
    rintro w' rfl
    have := idxP_ A ca B n l w1 (HQ1.out.2.2.2.1.rdP rfl) (by omega) ho hB1 hBl1
    rwa [hfa] at this
  replace hidx := hidx _ rfl
  have hq1 := HQ1.out.1
  have hq2 := HQ1.out.2.1.2.2
  go_wp2_with (go_at_call 23; refine Calls.mono hidx ?_; rintro e w2 ⟨rfl, hx2⟩)
  refine bodyPost_ret (v := .tuple #[.int .i64 0, .bool false]) (by simp [results, Try.results11, go_sem]) rfl ?_
  exact ⟨rfl, hxw.out.trans hx2⟩
set_option maxRecDepth 100000 in
set_option maxHeartbeats 4000000 in
theorem take_yes (q base : Nat) (fr to : Int) (v : Value) (l : List Pr) (w : World) (h : Fr w q base fr to v l) (hl : l.length ≤ 10000000) (ho : okF l) (n : Int) (hn : 1 ≤ n) (hg0 : g16 n = true) (k : Nat) (hk : k < l.length) (hf : l.findIdx? (fits n) = some k) : Calls Try.prog 11 #[.pointer (some ⟨q, 0, none⟩), .int .i64 n] w fun e w' => ∃ v', e = .returned (.tuple #[.int .i64 (l[k]).lo, .bool true]) ∧ Hid (Fr w' q base fr to v' (takeK l k n hk)) ∧ Hid (Only (tch q v) w w') ∧ (∀ g, v'.ownBlock = some g → v.ownBlock = some g) := by
  have hfa : fitAt n l = (k : Int) := by unfold fitAt; rw [hf]
  have hft : fits n l[k] = true := (List.findIdx?_eq_some_iff_getElem.1 hf).2.1
  have hnl : n ≤ (l[k]).len := of_decide_eq_true hft
  have hx1k := ho _ (List.getElem_mem hk)
  obtain ⟨A, ca, rfl, hca, hnil⟩ := h.2.2.2.1.shape
  have HQ := hid h
  clear h
  have hg : [n].all g16 = true := by simp [hg0]
  have hn1 : ¬ n < 1 := by omega
  go_enter Try.func11, Try.ntmps11
  go_upto_region 1 with (fail)
  refine wp_gen (fun W => Hid (Ext w W) ∧ Hid (W.cell? ⟨w.heap.size, 0, none⟩ = some (.int .i64 n)) ∧ w.heap.size < W.heap.size) ⟨hid (Ext.alloc (Ext.refl w) _), hid (by simp [go_sem]), by simp⟩ ?_
  rintro W0 ⟨hx0, hB0, hBl⟩
  have hBc := hB0.out
  obtain ⟨B, hBe⟩ : ∃ x, w.heap.size = x := ⟨_, rfl⟩
  rw [hBe] at hBc hBl ⊢
  clear hB0
  go_upto_region 3 with (go_at_call 22; refine (gran_ (some ⟨W0.heap.size, 0, none⟩) 1 [n] _ (slAtNew W0 [.int .i64 n] _) (by simp)).mono ?_; rw [hg]; rintro e w1 ⟨rfl, hx1⟩)
  have hxw := hid ((hx0.out.trans (Ext.alloc (Ext.refl _) _)).trans hx1)
  have HQ1 := hid (HQ.out.ext hxw.out)
  have hBx := (Ext.alloc (Ext.refl W0) (.cells #[.int .i64 n] 3)).trans hx1
  have hB1 : w1.cell? ⟨B, 0, none⟩ = some (.int .i64 n) := (hBx.cells B 0 hBl).trans hBc
  have hBl1 : B < w1.heap.size := Nat.lt_of_lt_of_le hBl hBx.size
  have hqB : q < B := by have := HQ.out.1; omega
  have HGB : Hid (∀ g, (Value.slice A l.length ca).ownBlock = some g → g < B) := hid (fun g e => by have := (HQ.out.2.2.2.1.lt g e).2; omega)
  clear hx0 hx1 hBc hBl hBx HQ
  have hidx : ∀ w', w1 = w' → Calls Try.prog 23 #[.slice A l.length ca, .func (.func 24) #[] #[.pointer (some ⟨B, 0, none⟩)]] w' fun e w'' => e = .returned (.int .i64 ((k : Int))) ∧ Ext w' w'' := by
    rintro w' rfl
    have := idxP_ A ca B n l w1 (HQ1.out.2.2.2.1.rdP rfl) (by omega) ho hB1 hBl1
    rwa [hfa] at this
  replace hidx := hidx _ rfl
  have hq1 := HQ1.out.1
  have hq2 := HQ1.out.2.1.2.2
  obtain ⟨g, a, rfl⟩ : ∃ g a, A = some ⟨g, a, none⟩ := by
    rcases HQ1.out.2.2.2.1.2 with ⟨_, h0⟩ | ⟨g, o, c, cur, e, _⟩
    · omega
    · simp only [Value.slice.injEq] at e
      exact ⟨g, _, e.1⟩
  have hgq : ¬ g = q := HQ1.out.2.2.2.2.2 g rfl
  have hqg : ¬ q = g := fun h => hgq h.symm
  have hgl : g < w1.heap.size := (HQ1.out.2.2.2.1.lt g rfl).2
  have hgB : ¬ g = B := fun h => by have := HGB.out g rfl; omega
  have hBg : ¬ B = g := fun h => hgB h.symm
  have k0 : ¬ (k : Int) < 0 := by omega
  have k1 : (k : Int) < (l.length : Int) := by omega
  have k2 : (0 : Int) ≤ (k : Int) := by omega
  go_upto_region 4 with (go_at_call 23; refine Calls.mono hidx ?_; rintro e w2 ⟨rfl, hx2⟩)
  clear hidx
  have HQ2 := hid (HQ1.out.ext hx2)
  have hxw2 := hid (hxw.out.trans hx2)
  have hB2 : w2.cell? ⟨B, 0, none⟩ = some (.int .i64 n) := (hx2.cells B 0 hBl1).trans hB1
  have hBl2 : B < w2.heap.size := Nat.lt_of_lt_of_le hBl1 hx2.size
  clear HQ1 hxw hB1 hBl1 hx2 hq1 hq2
  have hq1 := HQ2.out.1
  have hq2 := HQ2.out.2.1.2.2
  have hgl2 : g < w2.heap.size := (HQ2.out.2.2.2.1.lt g rfl).2
  obtain ⟨b', o', e', _, c0, c1⟩ := (HQ2.out.2.2.2.1.rdP rfl).two hk
  simp only [Option.some.injEq, Addr.mk.injEq, and_true] at e'
  obtain ⟨rfl, rfl⟩ := e'
  go_upto_region 7 with (fail)
  obtain ⟨xl, hxl⟩ : ∃ x, (l[k]).lo = x := ⟨_, rfl⟩
  obtain ⟨xh, hxh⟩ : ∃ x, (l[k]).hi = x := ⟨_, rfl⟩
  have hlen : (l[k]).len = xh - xl := by unfold Pr.len; rw [hxl, hxh]
  rw [hlen] at hnl
  rw [hxl] at c0 hx1k
  rw [hxh] at c1 hx1k
  have hTK : Hid (takeK l k n hk = if xh - xl = n then l.eraseIdx k else l.set k ⟨xl + n, xh⟩) := hid (by unfold takeK; rw [hlen, hxl, hxh])
  have HXL := hid hxl
  have HXH := hid hxh
  have hws : wrap64 (xl + n) = xl + n := wrapP (by omega) (by omega)
  obtain ⟨s, hs⟩ : ∃ s, xl + n = s := ⟨_, rfl⟩
  rw [hs] at hws hTK
  obtain ⟨d, hde⟩ : ∃ d, xh - s = d := ⟨_, rfl⟩
  have hd : wrap64 (xh - s) = d := by rw [hde]; exact wrapP (by omega) (by omega)
  have HD := hid hd
  have hnB := hBg
  clear hd hft hlen hxl hxh
  refine wp_region_turn (q := g) (.rd 0 (.rd 1 (.rd 2 (.rd 3 (.rd 4 (.rd 5 (.rd 6 (.rd 8 (.rd 10 (.ac 7 (.rd 9 (.rd 11 (.ac 12 .done))))))))))))) (by kernel_rfl) (by kernel_rfl) (fun _ _ d _ _ h => by cases d <;> exact h) (by simp only [Ord.map, nthOp, List.append]; rfl) ?_
  intro d0
  have hx0 : Ext w2 (Go.Proofs.Ytkjakaoimbmcjaa.grow w2 d0) := Ext.grow (Ext.refl _) d0
  have HQ3 := hid (HQ2.out.ext hx0)
  have hxw3 := hid (hxw2.out.trans hx0)
  have hB3 := (hx0.cells B 0 hBl2).trans hB2
  have hBl3 := Nat.lt_of_lt_of_le hBl2 hx0.size
  have c03 := (hx0.cells g _ hgl2).trans c0
  have c13 := (hx0.cells g _ hgl2).trans c1
  have hgl3 := Nat.lt_of_lt_of_le hgl2 hx0.size
  generalize Go.Proofs.Ytkjakaoimbmcjaa.grow w2 d0 = W at HQ3 hxw3 hB3 hBl3 c03 c13 hgl3 ⊢
  clear HQ2 hxw2 hB2 hBl2 c0 c1 hgl2 hx0 hq1 hq2
  have hq1 := HQ3.out.1
  have hq2 := HQ3.out.2.1.2.2
  have hfz : W.frozen? ⟨g, a + k * 2, none⟩ = false := by
    obtain ⟨_, _, e, _, _, _, hf⟩ := HQ3.out.2.2.2.1.at_ rfl (by omega)
    simp only [Option.some.injEq, Addr.mk.injEq, and_true] at e
    rw [e.1]
    exact hf _
  repeat' (first | (refine turn_read (by rfl) (fun K hK => ?_); go_big_quiet_op; refine hK _ ?_; clear hK K) | (refine turn_act (by rfl) (fun K hK => ?_); go_wp2_with fail; refine ⟨_, Only.refl _ _, (by first | exact Only.refl _ _ | exact Only.setCell (S := fun k => k = g) (Only.refl _ _) (.inl rfl) _), ?_⟩))
  refine turn_nil ?_
  have hO4 : Only (fun k => k = g) W (W.setCell ⟨g, a + k * 2, none⟩ (.int .i64 s)) := Only.setCell (S := fun k => k = g) (Only.refl _ _) (.inl rfl) _
  have hR4 : ownsAt (W.setCell ⟨g, a + k * 2, none⟩ (.int .i64 s)) base 38 2 (.slice (some ⟨g, a, none⟩) l.length ca) l.length (prList (l.set k ⟨s, xh⟩)) := by
    refine HQ3.out.2.2.2.1.putCell rfl (by rw [List.length_set]) (by omega) (fun j hj => ?_)
    have := prList_setLo l k s hk j hj
    rwa [HXH.out] at this
  obtain ⟨a0, a1, a2⟩ := HQ3.out.2.1
  obtain ⟨f0, f1, f2⟩ := HQ3.out.2.2.1
  have hqs := HQ3.out.1
  have hFr : ∀ W', Only (fun k => k = g) W W' → Hid ((W'.cell? ⟨q, 0, none⟩ = some (.int .i64 fr) ∧ W'.cell? ⟨q, 1, none⟩ = some (.int .i64 to) ∧ W'.cell? ⟨q, 2, none⟩ = some (.slice (some ⟨g, a, none⟩) l.length ca)) ∧ (W'.frozen? ⟨q, 0, none⟩ = false ∧ W'.frozen? ⟨q, 1, none⟩ = false ∧ W'.frozen? ⟨q, 2, none⟩ = false)) := fun W' x =>
    hid ⟨⟨(x.cells q 0 hqs hqg).trans a0, (x.cells q 1 hqs hqg).trans a1, (x.cells q 2 hqs hqg).trans a2⟩, ⟨(x.frozens q 0 hqs hqg).trans f0, (x.frozens q 1 hqs hqg).trans f1, (x.frozens q 2 hqs hqg).trans f2⟩⟩
  have hF4 := hFr _ hO4
  have HR4 := hid hR4
  have HO4 := hid hO4
  have hbq := HQ3.out.2.2.2.2.1
  have hbg := (HQ3.out.2.2.2.1.lt g rfl).1
  generalize W.setCell ⟨g, a + k * 2, none⟩ (.int .i64 s) = W4 at HR4 HO4 hF4 ⊢
  clear hR4 hO4 a0 a1 a2 f0 f1 f2 hFr hq1 hq2 hfz c03 c13 hB3
  have hxg : Hid (Only (tch q (.slice (some ⟨g, a, none⟩) l.length ca)) w W4) := hid (Only.trans' (Only.ofExt hxw3.out) (HO4.out.mono (fun i e => .inr (by subst e; rfl))))
  clear hxw3 HQ3
  have hq1 : q < W4.heap.size := Nat.lt_of_lt_of_le hqs HO4.out.size
  have hgl4 : g < W4.heap.size := Nat.lt_of_lt_of_le hgl3 HO4.out.size
  have hq2 := hF4.out.1.2.2
  have hks : k < (l.set k ⟨s, xh⟩).length := by rw [List.length_set]; exact hk
  have HR5 : Hid (RdP W4 (some ⟨g, a, none⟩) (l.set k ⟨s, xh⟩)) := hid (ownsAt.rdP HR4.out (by rw [List.length_set]))
  obtain ⟨b5, o5, e5, _, e0, e1⟩ := HR5.out.two hks
  simp only [Option.some.injEq, Addr.mk.injEq, and_true] at e5
  obtain ⟨e5a, e5b⟩ := e5
  rw [← e5a, ← e5b, List.getElem_set_self] at e0 e1
  clear e5a e5b HR5
  have hown : ∀ n' c' g', (Value.slice (some ⟨g, a, none⟩) n' c').ownBlock = some g' → g' = g := fun n' c' g' e => by simp only [Value.ownBlock, Option.some.injEq] at e; exact e.symm
  by_cases hdn : d = 0
  · have hne : xh - xl = n := by omega
    subst hdn
    obtain ⟨m, hm⟩ : ∃ m, l.length = m + 1 := ⟨l.length - 1, by omega⟩
    rw [hm] at HR4 hF4 hq2 hxg k1 ⊢
    have hm7 : m ≤ 10000000 := by omega
    have hkm : k ≤ m := by omega
    go_upto_region 9 with (go_at_call 25; refine (len_ ⟨s, xh⟩ 0 HD.out _).mono ?_; rintro e w5 ⟨rfl, hx5⟩)
    have HR5 := hid (HR4.out.ext hx5)
    have hq5 : q < w5.heap.size := Nat.lt_of_lt_of_le hq1 hx5.size
    have hq25 := (hx5.cells q 2 hq1).trans hq2
    have hfz5 := (hx5.frozens q 2 hq1).trans hF4.out.2.2.2
    have hF5 : Hid ((w5.cell? ⟨q, 0, none⟩ = some (.int .i64 fr) ∧ w5.cell? ⟨q, 1, none⟩ = some (.int .i64 to)) ∧ (w5.frozen? ⟨q, 0, none⟩ = false ∧ w5.frozen? ⟨q, 1, none⟩ = false)) := hid ⟨⟨(hx5.cells q 0 hq1).trans hF4.out.1.1, (hx5.cells q 1 hq1).trans hF4.out.1.2.1⟩, ⟨(hx5.frozens q 0 hq1).trans hF4.out.2.1, (hx5.frozens q 1 hq1).trans hF4.out.2.2.1⟩⟩
    have hx5' := hid (Only.transExt hxg.out hx5)
    clear HR4 hq1 hq2 hF4 hxg hx5 e0 e1 HO4 hgl4
    go_wp2_with (go_at_call 26; refine (edel_ base g a m ca k (l.set k ⟨s, xh⟩) _ HR5.out hkm (by omega)).mono ?_; rintro e w6 ⟨rfl, HR6, HO6⟩; have c26 := (HO6.out.cells q 2 hq5 hqg).trans hq25; have f26 := (HO6.out.frozens q 2 hq5 hqg).trans hfz5; have hq6 : q < w6.heap.size := Nat.lt_of_lt_of_le hq5 HO6.out.size)
    refine bodyPost_ret (v := .tuple #[.int .i64 (l[k]).lo, .bool true]) (by simp [results, Try.results11, go_sem]) rfl ?_
    have hx6 := Only.trans' hx5'.out (HO6.out.mono (T := tch q (.slice (some ⟨g, a, none⟩) (m + 1) ca)) (fun i e => .inr (by subst e; rfl)))
    have hS : ∀ u, Only (fun k => k = q) w6 (w6.setCell ⟨q, 2, none⟩ u) := fun u => Only.setCell (S := fun k => k = q) (Only.refl _ _) (.inl rfl) _
    have hq6 : q < w6.heap.size := Nat.lt_of_lt_of_le hq5 HO6.out.size
    have b0 := (HO6.out.cells q 0 hq5 hqg).trans hF5.out.1.1
    have b1 := (HO6.out.cells q 1 hq5 hqg).trans hF5.out.1.2
    have b2 := (HO6.out.frozens q 0 hq5 hqg).trans hF5.out.2.1
    have b3 := (HO6.out.frozens q 1 hq5 hqg).trans hF5.out.2.2
    have hle : (l.eraseIdx k).length = m := by rw [List.length_eraseIdx, if_pos hk]; omega
    refine ⟨.slice (some ⟨g, a, none⟩) m ca, rfl, hid ?_, hid (Only.setCell (S := tch q (.slice (some ⟨g, a, none⟩) (m + 1) ca)) hx6 (Or.inl (Or.inl rfl)) _), fun g' h' => h'⟩
    · rw [hTK.out, if_pos hne]
      refine ⟨by simpa using hq6, ⟨by simp [go_sem, b0], by simp [go_sem, b1], by simp [go_sem, c26]⟩, ⟨by simp [go_sem, b2], by simp [go_sem, b3], by simp [go_sem, f26]⟩, ?_, hbq, fun g' h' => (hown _ _ g' h') ▸ hgq⟩
      rw [hle]
      have := HR6.out.only (hS (.slice (some ⟨g, a, none⟩) m ca)) (fun g' h' => (hown _ _ g' h') ▸ hgq)
      rwa [List.eraseIdx_set_eq] at this
  · have hne : ¬ xh - xl = n := by omega
    go_wp2_with (go_at_call 25; refine (len_ ⟨s, xh⟩ d HD.out _).mono ?_; rintro e w5 ⟨rfl, hx5⟩)
    refine bodyPost_ret (v := .tuple #[.int .i64 (l[k]).lo, .bool true]) (by simp [results, Try.results11, go_sem]) rfl ?_
    have hFr4 : Fr W4 q base fr to (.slice (some ⟨g, a, none⟩) l.length ca) (l.set k ⟨s, xh⟩) := ⟨hq1, hF4.out.1, hF4.out.2, by rw [List.length_set]; exact HR4.out, hbq, fun g' h' => (hown _ _ g' h') ▸ hgq⟩
    refine ⟨_, rfl, hid ?_, hid (Only.transExt hxg.out hx5), fun g' h' => h'⟩
    rw [hTK.out, if_neg hne]
    exact hFr4.ext hx5

end Go.Proofs.Ytkjakaoimbmcjaa
