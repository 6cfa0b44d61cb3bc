/- Layer 19: frames: Pop. -/
import Derived.Test.YtfpfmjcajdknoaaFraD
import Derived.Laws.ResultCell
namespace Go.Proofs.Ytfpfmjcajdknoaa
set_option linter.unusedSimpArgs false
set_option linter.unusedVariables false
open Go.RowKit

/-- The cells of frame m. -/
def rowCells (L : Nat → Cap) (m : Nat) : List Value := capsList 5 fun i => L (m * 5 + i)
theorem rowCells_length (L : Nat → Cap) (m : Nat) : (rowCells L m).length = 30 := capsList_length _ _
theorem rowCells_at (L : Nat → Cap) (n m : Nat) (hm : m < n) : ∀ j v, (rowCells L m)[j]? = some v → (capsList (n * 5) L)[m * 30 + j]? = some v := fun j v hj => by
  have hlt : j < 30 := by have := (List.getElem?_eq_some_iff.1 hj).1; rwa [rowCells_length] at this
  have e1 : (rowCells L m)[j / 6 * 6 + j % 6]? = (L (m * 5 + j / 6)).cells[j % 6]? := capsList_at 5 _ (j / 6) (j % 6) (by omega) (by omega)
  have e2 := capsList_at (n * 5) L (m * 5 + j / 6) (j % 6) (by omega) (by omega)
  rw [show j / 6 * 6 + j % 6 = j by omega, hj] at e1
  rw [show (m * 5 + j / 6) * 6 + j % 6 = m * 30 + j by omega] at e2
  rw [e2, ← e1]
theorem Stk.row {w : World} {q base g n cap : Nat} {L : Nat → Cap} (h : Stk w q base (.slice (some ⟨g, 0, none⟩) n cap) n L) {m : Nat} (hm : m < n) : Rng w g (m * 30) (rowCells L m) := by
  obtain ⟨A, c, e, _, h2⟩ := h.slice
  simp only [Value.slice.injEq] at e
  obtain ⟨g', e', _, hr⟩ := h2 _ e.1.symm
  obtain rfl : g = g' := by simpa using e'
  exact ⟨hr.lt, fun j v hj => by have := hr.range (m * 30 + j) v (rowCells_at L n m hm j v hj); simpa using this⟩
theorem rowCells_lit (L : Nat → Cap) (m : Nat) : rowCells L m = [.bool (L (m * 5)).tag, .int .i64 (L (m * 5)).base, .int .i64 (L (m * 5)).top, .int .i64 (L (m * 5)).at_, .int .i64 (L (m * 5)).perms, .int .i64 (L (m * 5)).type, .bool (L (m * 5 + 1)).tag, .int .i64 (L (m * 5 + 1)).base, .int .i64 (L (m * 5 + 1)).top, .int .i64 (L (m * 5 + 1)).at_, .int .i64 (L (m * 5 + 1)).perms, .int .i64 (L (m * 5 + 1)).type, .bool (L (m * 5 + 2)).tag, .int .i64 (L (m * 5 + 2)).base, .int .i64 (L (m * 5 + 2)).top, .int .i64 (L (m * 5 + 2)).at_, .int .i64 (L (m * 5 + 2)).perms, .int .i64 (L (m * 5 + 2)).type, .bool (L (m * 5 + 3)).tag, .int .i64 (L (m * 5 + 3)).base, .int .i64 (L (m * 5 + 3)).top, .int .i64 (L (m * 5 + 3)).at_, .int .i64 (L (m * 5 + 3)).perms, .int .i64 (L (m * 5 + 3)).type, .bool (L (m * 5 + 4)).tag, .int .i64 (L (m * 5 + 4)).base, .int .i64 (L (m * 5 + 4)).top, .int .i64 (L (m * 5 + 4)).at_, .int .i64 (L (m * 5 + 4)).perms, .int .i64 (L (m * 5 + 4)).type] := rfl
theorem results_mid_tmp {P : Program} {fn : Func} {p u : Tmp} {ty : TypeId} (h : fn.results = #[.cell p ty, .tmp u]) (tmps : Array Value) (w : World) (b o : Nat) (cs : List Value) (d : TypeDesc) (x : Value)
    (hp : tmps.getD p undef = .pointer (some ⟨b, o, none⟩)) (hc : w.rangeAt b o cs)
    (hu : P.underlying ty = some d) (hd : d.isRow = true) (hi : (P.info? ty).map (·.size) = some cs.length) (hx : tmps.getD u undef = x) : (results fn tmps).run P w = .ok (.tuple #[.agg cs.toArray, x]) w := by
  rw [results_cell_tmp h, hp, hx]
  simp [asAddr, run_loadVar_mid w b o ty cs d hc hu hd hi, Result.andThen]
set_option maxRecDepth 100000 in
set_option maxHeartbeats 4000000 in
theorem pop_ (q base g m cap : Nat) (L : Nat → Cap) (w : World) (h : Stk w q base (.slice (some ⟨g, 0, none⟩) (m + 1) cap) (m + 1) L) (hm : m ≤ 1000000) :
    Calls Try.prog 10 #[.pointer (some ⟨q, 0, none⟩)] w fun e w' => e = .returned (.tuple #[.agg #[.bool (L (m * 5)).tag, .int .i64 (L (m * 5)).base, .int .i64 (L (m * 5)).top, .int .i64 (L (m * 5)).at_, .int .i64 (L (m * 5)).perms, .int .i64 (L (m * 5)).type, .bool (L (m * 5 + 1)).tag, .int .i64 (L (m * 5 + 1)).base, .int .i64 (L (m * 5 + 1)).top, .int .i64 (L (m * 5 + 1)).at_, .int .i64 (L (m * 5 + 1)).perms, .int .i64 (L (m * 5 + 1)).type, .bool (L (m * 5 + 2)).tag, .int .i64 (L (m * 5 + 2)).base, .int .i64 (L (m * 5 + 2)).top, .int .i64 (L (m * 5 + 2)).at_, .int .i64 (L (m * 5 + 2)).perms, .int .i64 (L (m * 5 + 2)).type, .bool (L (m * 5 + 3)).tag, .int .i64 (L (m * 5 + 3)).base, .int .i64 (L (m * 5 + 3)).top, .int .i64 (L (m * 5 + 3)).at_, .int .i64 (L (m * 5 + 3)).perms, .int .i64 (L (m * 5 + 3)).type, .bool (L (m * 5 + 4)).tag, .int .i64 (L (m * 5 + 4)).base, .int .i64 (L (m * 5 + 4)).top, .int .i64 (L (m * 5 + 4)).at_, .int .i64 (L (m * 5 + 4)).perms, .int .i64 (L (m * 5 + 4)).type], .bool true]) ∧ Only (· = q) w w' ∧ w'.cell? ⟨q, 0, none⟩ = some (.slice (some ⟨g, 0, none⟩) m cap) ∧ w'.frozen? ⟨q, 0, none⟩ = false := by
  have HS := hid h
  have HR := hid (h.row (m := m) (by omega))
  have hq := h.1
  have hc := h.2.1
  have hfq := h.2.2.1
  have hwm : wrap64 (m : Int) = m := by simp [wrap64]; omega
  have hmc : m + 1 ≤ cap := by
    rcases h.2.2.2.1.2 with ⟨h0, _⟩ | ⟨g', cap', cur, hv, _, _, hn, _⟩
    · cases h0
    · cases hv; exact hn
  have hmc' : (m : Int) ≤ (cap : Int) := by omega
  have h0m : (0 : Int) ≤ (m : Int) := by omega
  have h1m : ¬ (m : Int) < 0 := by omega
  have h2m : (m : Int) < (m : Int) + 1 := by omega
  clear h hmc
  go_enter Try.func10, Try.ntmps10
  go_upto_region 4 with (go_at_call 17; refine (many_ q base _ _ L _ (Stk.ext HS.out (by repeat (first | (with_reducible exact Ext.refl _) | (with_reducible refine Ext.undrew ?_) | (with_reducible refine Ext.grow ?_ _) | (with_reducible refine Ext.drew ?_) | (with_reducible refine Ext.drewN ?_ _) | (with_reducible refine Ext.alloc ?_ _) | (with_reducible assumption) | ((with_reducible refine Ext.setCell ?_ ?_ _); rotate_left; (first | exact Nat.le_refl _ | ((try dsimp only); (try simp only [World.size_alloc, grow_size, World.size_setCell]); omega))))))).mono ?_; rintro e w1 ⟨rfl, rfl⟩)
  refine wp_gen (fun W => Hid (Ext w W) ∧ Hid (w.heap.size < W.heap.size ∧ W.there w.heap.size 0 30)) ⟨hid (by repeat (first | (with_reducible exact Ext.refl _) | (with_reducible refine Ext.undrew ?_) | (with_reducible refine Ext.grow ?_ _) | (with_reducible refine Ext.drew ?_) | (with_reducible refine Ext.drewN ?_ _) | (with_reducible refine Ext.alloc ?_ _) | (with_reducible assumption) | ((with_reducible refine Ext.setCell ?_ ?_ _); rotate_left; (first | exact Nat.le_refl _ | ((try dsimp only); (try simp only [World.size_alloc, grow_size, World.size_setCell]); omega))))), hid (there_newAt rfl rfl)⟩ ?_
  rintro W1 ⟨hE, hth⟩
  have hs1 := hE.out.size
  have hq1 : q < W1.heap.size := by omega
  have hc0 := hid hc
  replace hc := (hE.out.cells q 0 hq).trans hc
  have HR2 : Hid (Rng W1 g (m * 30) [.bool (L (m * 5)).tag, .int .i64 (L (m * 5)).base, .int .i64 (L (m * 5)).top, .int .i64 (L (m * 5)).at_, .int .i64 (L (m * 5)).perms, .int .i64 (L (m * 5)).type, .bool (L (m * 5 + 1)).tag, .int .i64 (L (m * 5 + 1)).base, .int .i64 (L (m * 5 + 1)).top, .int .i64 (L (m * 5 + 1)).at_, .int .i64 (L (m * 5 + 1)).perms, .int .i64 (L (m * 5 + 1)).type, .bool (L (m * 5 + 2)).tag, .int .i64 (L (m * 5 + 2)).base, .int .i64 (L (m * 5 + 2)).top, .int .i64 (L (m * 5 + 2)).at_, .int .i64 (L (m * 5 + 2)).perms, .int .i64 (L (m * 5 + 2)).type, .bool (L (m * 5 + 3)).tag, .int .i64 (L (m * 5 + 3)).base, .int .i64 (L (m * 5 + 3)).top, .int .i64 (L (m * 5 + 3)).at_, .int .i64 (L (m * 5 + 3)).perms, .int .i64 (L (m * 5 + 3)).type, .bool (L (m * 5 + 4)).tag, .int .i64 (L (m * 5 + 4)).base, .int .i64 (L (m * 5 + 4)).top, .int .i64 (L (m * 5 + 4)).at_, .int .i64 (L (m * 5 + 4)).perms, .int .i64 (L (m * 5 + 4)).type]) := hid (HR.out.ext hE.out)
  clear HR
  have hfr := frame_ (fun i => L (m * 5 + i))
  simp only [Nat.add_zero] at hfr
  clear HS
  go_wp2_with (with_reducible refine wpList_load_mid rfl 54 (.tmp 17) rfl g (m * 30) rfl [.bool (L (m * 5)).tag, .int .i64 (L (m * 5)).base, .int .i64 (L (m * 5)).top, .int .i64 (L (m * 5)).at_, .int .i64 (L (m * 5)).perms, .int .i64 (L (m * 5)).type, .bool (L (m * 5 + 1)).tag, .int .i64 (L (m * 5 + 1)).base, .int .i64 (L (m * 5 + 1)).top, .int .i64 (L (m * 5 + 1)).at_, .int .i64 (L (m * 5 + 1)).perms, .int .i64 (L (m * 5 + 1)).type, .bool (L (m * 5 + 2)).tag, .int .i64 (L (m * 5 + 2)).base, .int .i64 (L (m * 5 + 2)).top, .int .i64 (L (m * 5 + 2)).at_, .int .i64 (L (m * 5 + 2)).perms, .int .i64 (L (m * 5 + 2)).type, .bool (L (m * 5 + 3)).tag, .int .i64 (L (m * 5 + 3)).base, .int .i64 (L (m * 5 + 3)).top, .int .i64 (L (m * 5 + 3)).at_, .int .i64 (L (m * 5 + 3)).perms, .int .i64 (L (m * 5 + 3)).type, .bool (L (m * 5 + 4)).tag, .int .i64 (L (m * 5 + 4)).base, .int .i64 (L (m * 5 + 4)).top, .int .i64 (L (m * 5 + 4)).at_, .int .i64 (L (m * 5 + 4)).perms, .int .i64 (L (m * 5 + 4)).type] _ (Rng.range HR2.out) Try.underlying54 rfl (by kernel_rfl) ?_)
  refine (hfr _).mono ?_
  rintro e w1 ⟨rfl, hy⟩
  clear hfr hwm h1m h2m HR2
  have hst : ((#[.bool (L (m * 5)).tag, .int .i64 (L (m * 5)).base, .int .i64 (L (m * 5)).top, .int .i64 (L (m * 5)).at_, .int .i64 (L (m * 5)).perms, .int .i64 (L (m * 5)).type, .bool (L (m * 5 + 1)).tag, .int .i64 (L (m * 5 + 1)).base, .int .i64 (L (m * 5 + 1)).top, .int .i64 (L (m * 5 + 1)).at_, .int .i64 (L (m * 5 + 1)).perms, .int .i64 (L (m * 5 + 1)).type, .bool (L (m * 5 + 2)).tag, .int .i64 (L (m * 5 + 2)).base, .int .i64 (L (m * 5 + 2)).top, .int .i64 (L (m * 5 + 2)).at_, .int .i64 (L (m * 5 + 2)).perms, .int .i64 (L (m * 5 + 2)).type, .bool (L (m * 5 + 3)).tag, .int .i64 (L (m * 5 + 3)).base, .int .i64 (L (m * 5 + 3)).top, .int .i64 (L (m * 5 + 3)).at_, .int .i64 (L (m * 5 + 3)).perms, .int .i64 (L (m * 5 + 3)).type, .bool (L (m * 5 + 4)).tag, .int .i64 (L (m * 5 + 4)).base, .int .i64 (L (m * 5 + 4)).top, .int .i64 (L (m * 5 + 4)).at_, .int .i64 (L (m * 5 + 4)).perms, .int .i64 (L (m * 5 + 4)).type] : Array Value).all (·.oneCell')) = true := by simp [Value.oneCell']
  have HST := hid hst
  clear hst
  go_upto_region 5 with (with_reducible refine wpList_store_mid rfl 32 (.tmp 5) (.tmp 19) rfl w1.heap.size 0 #[.bool (L (m * 5)).tag, .int .i64 (L (m * 5)).base, .int .i64 (L (m * 5)).top, .int .i64 (L (m * 5)).at_, .int .i64 (L (m * 5)).perms, .int .i64 (L (m * 5)).type, .bool (L (m * 5 + 1)).tag, .int .i64 (L (m * 5 + 1)).base, .int .i64 (L (m * 5 + 1)).top, .int .i64 (L (m * 5 + 1)).at_, .int .i64 (L (m * 5 + 1)).perms, .int .i64 (L (m * 5 + 1)).type, .bool (L (m * 5 + 2)).tag, .int .i64 (L (m * 5 + 2)).base, .int .i64 (L (m * 5 + 2)).top, .int .i64 (L (m * 5 + 2)).at_, .int .i64 (L (m * 5 + 2)).perms, .int .i64 (L (m * 5 + 2)).type, .bool (L (m * 5 + 3)).tag, .int .i64 (L (m * 5 + 3)).base, .int .i64 (L (m * 5 + 3)).top, .int .i64 (L (m * 5 + 3)).at_, .int .i64 (L (m * 5 + 3)).perms, .int .i64 (L (m * 5 + 3)).type, .bool (L (m * 5 + 4)).tag, .int .i64 (L (m * 5 + 4)).base, .int .i64 (L (m * 5 + 4)).top, .int .i64 (L (m * 5 + 4)).at_, .int .i64 (L (m * 5 + 4)).perms, .int .i64 (L (m * 5 + 4)).type] rfl rfl (there_newAt rfl (by kernel_rfl)).2 (by kernel_rfl) HST.out ?_)
  have hsy := hy.size
  have hO : ∀ (W : World) vs, Only (fun i => i = w1.heap.size) W (W.setCells w1.heap.size 0 vs) := fun W vs => Only.setCells (S := fun i => i = w1.heap.size) (.inl rfl) _ _ (Only.refl _ _)
  have hge : ∀ i, i = w1.heap.size → W1.heap.size ≤ i := fun i h => by omega
  refine wp_gen (fun W => Hid (Ext w W) ∧ Hid (Row W w1.heap.size 0 [.bool (L (m * 5)).tag, .int .i64 (L (m * 5)).base, .int .i64 (L (m * 5)).top, .int .i64 (L (m * 5)).at_, .int .i64 (L (m * 5)).perms, .int .i64 (L (m * 5)).type, .bool (L (m * 5 + 1)).tag, .int .i64 (L (m * 5 + 1)).base, .int .i64 (L (m * 5 + 1)).top, .int .i64 (L (m * 5 + 1)).at_, .int .i64 (L (m * 5 + 1)).perms, .int .i64 (L (m * 5 + 1)).type, .bool (L (m * 5 + 2)).tag, .int .i64 (L (m * 5 + 2)).base, .int .i64 (L (m * 5 + 2)).top, .int .i64 (L (m * 5 + 2)).at_, .int .i64 (L (m * 5 + 2)).perms, .int .i64 (L (m * 5 + 2)).type, .bool (L (m * 5 + 3)).tag, .int .i64 (L (m * 5 + 3)).base, .int .i64 (L (m * 5 + 3)).top, .int .i64 (L (m * 5 + 3)).at_, .int .i64 (L (m * 5 + 3)).perms, .int .i64 (L (m * 5 + 3)).type, .bool (L (m * 5 + 4)).tag, .int .i64 (L (m * 5 + 4)).base, .int .i64 (L (m * 5 + 4)).top, .int .i64 (L (m * 5 + 4)).at_, .int .i64 (L (m * 5 + 4)).perms, .int .i64 (L (m * 5 + 4)).type]) ∧ Hid (w.heap.size < W.heap.size ∧ W.there w.heap.size 0 30))
    ⟨hid (Ext.only (Ext.alloc (hE.out.trans hy) _) (hO _ _) (fun i h => by have := hge i h; omega)), hid ((Row.new w1 _ _).put rfl), hid ⟨by rw [size_setCells]; simp; omega, there_ext hth.out (Ext.only (Ext.alloc hy _) (hO _ _) hge)⟩⟩ ?_
  rintro W2 ⟨hE2, hR5, hth2⟩
  have hq2 : q < W2.heap.size := by have := hE2.out.size; omega
  have hc2 := (hE2.out.cells q 0 hq).trans hc0.out
  have hf2 := (hE2.out.frozens q 0 hq).trans hfq
  have hn1 : ¬ w1.heap.size = q := by omega
  have hn2 : ¬ w.heap.size = q := by omega
  have hO2 : ∀ v, Only (fun i => i = q) W2 (W2.setCell ⟨q, 0, none⟩ v) := fun v => Only.setCell (S := fun i => i = q) (Only.refl _ _) (.inl rfl) v
  clear hO hge hc hfq hE hth hy hc0
  go_wp2_with (first
    | (with_reducible refine wpList_load_mid rfl 32 (.tmp 5) rfl w1.heap.size 0 rfl [.bool (L (m * 5)).tag, .int .i64 (L (m * 5)).base, .int .i64 (L (m * 5)).top, .int .i64 (L (m * 5)).at_, .int .i64 (L (m * 5)).perms, .int .i64 (L (m * 5)).type, .bool (L (m * 5 + 1)).tag, .int .i64 (L (m * 5 + 1)).base, .int .i64 (L (m * 5 + 1)).top, .int .i64 (L (m * 5 + 1)).at_, .int .i64 (L (m * 5 + 1)).perms, .int .i64 (L (m * 5 + 1)).type, .bool (L (m * 5 + 2)).tag, .int .i64 (L (m * 5 + 2)).base, .int .i64 (L (m * 5 + 2)).top, .int .i64 (L (m * 5 + 2)).at_, .int .i64 (L (m * 5 + 2)).perms, .int .i64 (L (m * 5 + 2)).type, .bool (L (m * 5 + 3)).tag, .int .i64 (L (m * 5 + 3)).base, .int .i64 (L (m * 5 + 3)).top, .int .i64 (L (m * 5 + 3)).at_, .int .i64 (L (m * 5 + 3)).perms, .int .i64 (L (m * 5 + 3)).type, .bool (L (m * 5 + 4)).tag, .int .i64 (L (m * 5 + 4)).base, .int .i64 (L (m * 5 + 4)).top, .int .i64 (L (m * 5 + 4)).at_, .int .i64 (L (m * 5 + 4)).perms, .int .i64 (L (m * 5 + 4)).type] _ ((hR5.out.only (hO2 _) hn1).range) Try.underlying32 rfl (by kernel_rfl) ?_)
    | (with_reducible refine wpList_store_mid rfl 32 (.tmp 2) (.tmp 29) rfl w.heap.size 0 #[.bool (L (m * 5)).tag, .int .i64 (L (m * 5)).base, .int .i64 (L (m * 5)).top, .int .i64 (L (m * 5)).at_, .int .i64 (L (m * 5)).perms, .int .i64 (L (m * 5)).type, .bool (L (m * 5 + 1)).tag, .int .i64 (L (m * 5 + 1)).base, .int .i64 (L (m * 5 + 1)).top, .int .i64 (L (m * 5 + 1)).at_, .int .i64 (L (m * 5 + 1)).perms, .int .i64 (L (m * 5 + 1)).type, .bool (L (m * 5 + 2)).tag, .int .i64 (L (m * 5 + 2)).base, .int .i64 (L (m * 5 + 2)).top, .int .i64 (L (m * 5 + 2)).at_, .int .i64 (L (m * 5 + 2)).perms, .int .i64 (L (m * 5 + 2)).type, .bool (L (m * 5 + 3)).tag, .int .i64 (L (m * 5 + 3)).base, .int .i64 (L (m * 5 + 3)).top, .int .i64 (L (m * 5 + 3)).at_, .int .i64 (L (m * 5 + 3)).perms, .int .i64 (L (m * 5 + 3)).type, .bool (L (m * 5 + 4)).tag, .int .i64 (L (m * 5 + 4)).base, .int .i64 (L (m * 5 + 4)).top, .int .i64 (L (m * 5 + 4)).at_, .int .i64 (L (m * 5 + 4)).perms, .int .i64 (L (m * 5 + 4)).type] rfl rfl (there_only hth2.out (hO2 _) hn2) (by kernel_rfl) HST.out ?_))
  refine bodyPost_ret (results_mid_tmp rfl _ _ w.heap.size 0 [.bool (L (m * 5)).tag, .int .i64 (L (m * 5)).base, .int .i64 (L (m * 5)).top, .int .i64 (L (m * 5)).at_, .int .i64 (L (m * 5)).perms, .int .i64 (L (m * 5)).type, .bool (L (m * 5 + 1)).tag, .int .i64 (L (m * 5 + 1)).base, .int .i64 (L (m * 5 + 1)).top, .int .i64 (L (m * 5 + 1)).at_, .int .i64 (L (m * 5 + 1)).perms, .int .i64 (L (m * 5 + 1)).type, .bool (L (m * 5 + 2)).tag, .int .i64 (L (m * 5 + 2)).base, .int .i64 (L (m * 5 + 2)).top, .int .i64 (L (m * 5 + 2)).at_, .int .i64 (L (m * 5 + 2)).perms, .int .i64 (L (m * 5 + 2)).type, .bool (L (m * 5 + 3)).tag, .int .i64 (L (m * 5 + 3)).base, .int .i64 (L (m * 5 + 3)).top, .int .i64 (L (m * 5 + 3)).at_, .int .i64 (L (m * 5 + 3)).perms, .int .i64 (L (m * 5 + 3)).type, .bool (L (m * 5 + 4)).tag, .int .i64 (L (m * 5 + 4)).base, .int .i64 (L (m * 5 + 4)).top, .int .i64 (L (m * 5 + 4)).at_, .int .i64 (L (m * 5 + 4)).perms, .int .i64 (L (m * 5 + 4)).type] _ (.bool true) rfl ?_ Try.underlying32 rfl (by kernel_rfl) rfl) rfl ⟨rfl, ?_, ?_, ?_⟩
  · exact World.rangeAt_setCells_same _ _ _ _ (there_only hth2.out (hO2 _) hn2)
  · exact Only.setCells (S := fun i => i = q) (.inr (Nat.le_refl _)) _ _ (Only.setCell (S := fun i => i = q) (Only.ofExt hE2.out) (.inl rfl) _)
  · refine ((Only.setCells (S := fun i => i = w.heap.size) (.inl rfl) _ _ (Only.refl _ _)).cells q 0 (by simpa using hq2) (fun h => hn2 h.symm)).trans ?_
    simp [go_sem, hc2]
  · rw [World.frozen?_setCells]
    simp [go_sem, hf2]
/-- The stack behind a Pop. -/
theorem Stk.popped {w w' : World} {q base g m cap : Nat} {L : Nat → Cap} (h : Stk w q base (.slice (some ⟨g, 0, none⟩) (m + 1) cap) (m + 1) L) (x : Only (· = q) w w') (hc : w'.cell? ⟨q, 0, none⟩ = some (.slice (some ⟨g, 0, none⟩) m cap)) (hf : w'.frozen? ⟨q, 0, none⟩ = false) :
    Stk w' q base (.slice (some ⟨g, 0, none⟩) m cap) m L := by
  obtain ⟨hq, _, _, ho, hb, hne⟩ := h
  refine ⟨Nat.lt_of_lt_of_le hq x.size, hc, hf, ⟨by rw [capsList_length]; omega, ?_⟩, hb, fun g' hg' => hne g' hg'⟩
  rcases ho.2 with ⟨h0, _⟩ | ⟨g', cap', cur, hv, hbg, hg, hn, hm, hs, ht⟩
  · cases h0
  · cases hv
    have hgq : ¬ g = q := hne g rfl
    refine .inr ⟨g, cap, cur, rfl, hbg, by rw [x.block g (Array.getElem?_eq_some_iff.1 hg).1 hgq]; exact hg, by omega, hm, hs, ?_⟩
    have e : (capsList ((m + 1) * 5) L).take (m * 30) = capsList (m * 5) L := by
      apply List.ext_getElem?
      intro j
      rw [List.getElem?_take]
      by_cases hj : j < m * 30
      · rw [if_pos hj]
        have e1 := capsList_at ((m + 1) * 5) L (j / 6) (j % 6) (by omega) (by omega)
        have e2 := capsList_at (m * 5) L (j / 6) (j % 6) (by omega) (by omega)
        rw [show j / 6 * 6 + j % 6 = j by omega] at e1 e2
        rw [e1, e2]
      · rw [if_neg hj, List.getElem?_eq_none (by rw [capsList_length]; omega)]
    rw [← e, ← ht, List.take_take, Nat.min_eq_left (by omega)]
end Go.Proofs.Ytfpfmjcajdknoaa
