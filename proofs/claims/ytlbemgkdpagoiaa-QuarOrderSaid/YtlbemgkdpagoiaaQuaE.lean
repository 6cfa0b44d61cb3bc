/- Layer 13: the document's: the small ones. -/
import Derived.Test.YtlbemgkdpagoiaaQuaD
namespace Go.Proofs.Ytlbemgkdpagoiaa
set_option linter.unusedSimpArgs false
set_option linter.unusedVariables false
open Go.RowKit

/-- The document's, at block q. -/
def Rq (w : World) (q base : Nat) (full : Int) (v : Value) (l : List Hd) : Prop :=
  q < w.heap.size ∧ (w.cell? ⟨q, 0, none⟩ = some (.int .i64 full) ∧ w.cell? ⟨q, 1, none⟩ = some v) ∧
  (w.frozen? ⟨q, 0, none⟩ = false ∧ w.frozen? ⟨q, 1, none⟩ = false) ∧ ownsAt w base 29 3 v l.length (hdList l) ∧ base ≤ q ∧ ∀ g, v.ownBlock = some g → ¬ g = q
theorem Rq.only {S : Nat → Prop} {w w' : World} {q base : Nat} {full : Int} {v : Value} {l : List Hd} (h : Rq w q base full v l) (x : Only S w w') (h1 : ¬ S q) (h2 : ∀ g, v.ownBlock = some g → ¬ S g) : Rq w' q base full v l := by
  obtain ⟨hq, ⟨a0, a1⟩, ⟨f0, f1⟩, ho, hb, hn⟩ := h
  exact ⟨Nat.lt_of_lt_of_le hq x.size, ⟨(x.cells q 0 hq h1).trans a0, (x.cells q 1 hq h1).trans a1⟩, ⟨(x.frozens q 0 hq h1).trans f0, (x.frozens q 1 hq h1).trans f1⟩, ho.only x h2, hb, hn⟩
theorem Rq.ext {w w' : World} {q base : Nat} {full : Int} {v : Value} {l : List Hd} (h : Rq w q base full v l) (x : Ext w w') : Rq w' q base full v l := h.only (Only.ofExt (S := fun _ => False) x) id (fun _ _ => id)
/-- How many bytes the first k have. -/
def sumK (l : List Hd) (k : Nat) : Int := ((l.take k).map Hd.n).sum
theorem sumK_succ {l : List Hd} {k : Nat} (h : k < l.length) : sumK l (k + 1) = sumK l k + (l[k]).n := by
  unfold sumK
  rw [List.take_add_one, List.getElem?_eq_getElem h]
  simp only [Option.toList_some, List.map_append, List.map_cons, List.map_nil, List.sum_append_int, List.sum_cons, List.sum_nil, Int.add_zero]
theorem sumK_bound {l : List Hd} (hr : ∀ h ∈ l, 0 ≤ h.n ∧ h.n ≤ 16777216) : ∀ k, k ≤ l.length → 0 ≤ sumK l k ∧ sumK l k ≤ 16777216 * k
  | 0, _ => by simp [sumK]
  | k + 1, hk => by
    have := sumK_bound hr k (by omega)
    have := hr l[k] (List.getElem_mem _)
    rw [sumK_succ (by omega)]
    omega
set_option maxRecDepth 100000 in
set_option maxHeartbeats 4000000 in
theorem rqmany_ (q base : Nat) (full : Int) (v : Value) (l : List Hd) (w : World) (h : Rq w q base full v l) : Calls Try.prog 19 #[.pointer (some ⟨q, 0, none⟩)] w fun e w' => e = .returned (.int .i64 l.length) ∧ w' = w := by
  obtain ⟨A, ca, rfl, hca, _⟩ := h.2.2.2.1.shape
  obtain ⟨hq, ⟨a0, a1⟩, _, ho, _⟩ := h
  go_enter Try.func19, Try.ntmps19
  go_wp2
  go_ret
  exact ⟨rfl, rfl⟩
set_option maxRecDepth 100000 in
set_option maxHeartbeats 4000000 in
theorem rqbytes_ (q base : Nat) (full : Int) (v : Value) (l : List Hd) (w : World) (h : Rq w q base full v l) (hl : l.length ≤ 1000000) (hr : ∀ h ∈ l, 0 ≤ h.n ∧ h.n ≤ 16777216) : Calls Try.prog 17 #[.pointer (some ⟨q, 0, none⟩)] w fun e w' => e = .returned (.int .i64 (sumK l l.length)) ∧ Ext w w' := by
  obtain ⟨A, ca, rfl, hca, _⟩ := h.2.2.2.1.shape
  obtain ⟨hq, ⟨a0, a1⟩, _, ho, _⟩ := h
  have HB := hid (sumK_bound hr)
  have HO := hid ho
  clear ho hr
  go_enter Try.func17, Try.ntmps17
  go_wp2
  go_loopw [3, 4] (fun s i wr => ∃ k : Nat, k ≤ l.length ∧ i = .int .i64 k ∧ s = .int .i64 (sumK l k) ∧ Hid (Ext w wr)) (fun _ i _ => l.length - (intOf i).toNat)
  case atStart => exact ⟨0, Nat.zero_le _, rfl, rfl, hid (by repeat (first | (with_reducible exact Ext.refl _) | (with_reducible refine Ext.undrew ?_) | (with_reducible refine Ext.grow ?_ _) | (with_reducible refine Ext.drew ?_) | (with_reducible refine Ext.drewN ?_ _) | (with_reducible refine Ext.alloc ?_ _) | (with_reducible assumption) | ((with_reducible refine Ext.setCell ?_ ?_ _); rotate_left; (first | exact Nat.le_refl _ | ((try dsimp only); (try simp only [World.size_alloc, grow_size, World.size_setCell]); omega)))))⟩
  case round =>
    obtain ⟨k, hk, rfl, rfl, hx⟩ := hrel
    have hqr : q < wr.heap.size := Nat.lt_of_lt_of_le hq hx.out.size
    have hcr := (hx.out.cells q 1 hq).trans a1
    by_cases hlt : k < l.length
    · obtain ⟨g, o, rfl, _, hg, hcell, _⟩ := HO.out.at_ rfl (by omega)
      have hc := (hx.out.cells g _ hg).trans (hcell (k * 3 + 1) (.int .i64 (l[k]).n) (by rw [hdList_at l k 1 hlt (by omega)]; rfl))
      rw [← Nat.add_assoc] at hc
      have hgr : g < wr.heap.size := Nat.lt_of_lt_of_le hg hx.out.size
      have hs := sumK_succ hlt
      have h1 := HB.out k (by omega)
      have h2 := HB.out (k + 1) (by omega)
      have hk1 : (k : Int) < (l.length : Int) := by omega
      have hk0 : (0 : Int) ≤ (k : Int) := by omega
      have hw : wrap64 (sumK l k + (l[k]).n) = sumK l (k + 1) := by rw [← hs]; simp [wrap64]; omega
      clear hcell hs h1 h2
      generalize (l[k]).n = x at hc hw
      go_wp2
      go_roundw
      case rel => exact ⟨k + 1, by omega, by go_num, by first | rfl | rw [hw], hx⟩
      case measure => clear hw; simp [intOf]; omega
    · have hkl : k = l.length := by omega
      have hk1 : ¬ (k : Int) < (l.length : Int) := by omega
      go_wp2
      go_ret
      exact ⟨by first | rfl | (rw [hkl]; rfl), hx.out⟩
set_option maxRecDepth 100000 in
set_option maxHeartbeats 4000000 in
theorem rqfull_ (q base : Nat) (full : Int) (v : Value) (l : List Hd) (w : World) (h : Rq w q base full v l) (hl : l.length ≤ 1000000) (hr : ∀ h ∈ l, 0 ≤ h.n ∧ h.n ≤ 16777216) : Calls Try.prog 21 #[.pointer (some ⟨q, 0, none⟩)] w fun e w' => e = .returned (.bool (decide (full ≤ sumK l l.length))) ∧ Ext w w' := by
  have HQ := hid h
  obtain ⟨hq, ⟨a0, _⟩, _⟩ := h
  have hb : ∀ w', Ext w w' → Calls Try.prog 17 #[.pointer (some ⟨q, 0, none⟩)] w' fun e w'' => e = .returned (.int .i64 (sumK l l.length)) ∧ Ext w' w'' := fun w' hx => rqbytes_ q base full v l w' (HQ.out.ext hx) hl hr
  clear hr
  go_enter Try.func21, Try.ntmps21
  go_upto_region 1 with (fail)
  refine wp_region_grow (by kernel_rfl) (by kernel_rfl) (by first | (simp only [List.append]; rfl) | rfl) ?_
  (repeat (go_big_quiet_step ((go_at_call 17; exact growOf (hb _ (by repeat (first | (with_reducible exact Ext.refl _) | (with_reducible refine Ext.undrew ?_) | (with_reducible refine Ext.grow ?_ _) | (with_reducible refine Ext.drew ?_) | (with_reducible refine Ext.drewN ?_ _) | (with_reducible refine Ext.alloc ?_ _) | (with_reducible assumption) | ((with_reducible refine Ext.setCell ?_ ?_ _); rotate_left; (first | exact Nat.le_refl _ | ((try dsimp only); (try simp only [World.size_alloc, grow_size, World.size_setCell]); omega))))))))))
  refine wpQuiet_nil ?_
  intro wq hq
  obtain ⟨d, rfl⟩ := hq
  go_wp2
  go_ret
  exact ⟨rfl, (by repeat (first | (with_reducible exact Ext.refl _) | (with_reducible refine Ext.undrew ?_) | (with_reducible refine Ext.grow ?_ _) | (with_reducible refine Ext.drew ?_) | (with_reducible refine Ext.drewN ?_ _) | (with_reducible refine Ext.alloc ?_ _) | (with_reducible assumption) | ((with_reducible refine Ext.setCell ?_ ?_ _); rotate_left; (first | exact Nat.le_refl _ | ((try dsimp only); (try simp only [World.size_alloc, grow_size, World.size_setCell]); omega)))))⟩
set_option maxRecDepth 100000 in
set_option maxHeartbeats 4000000 in
theorem rqnew_ (n : Int) (w : World) (h0 : 1 ≤ n) (h1 : n ≤ 16777216) : Calls Try.prog 10 #[.int .i64 n] w fun e w' => ∃ b, e = .returned (.pointer (some ⟨b, 0, none⟩)) ∧ w.heap.size ≤ b ∧ Ext w w' ∧ Rq w' b w.heap.size n (.slice none 0 0) [] := by
  have h2 : ¬ n < 1 := by omega
  have h3 : ¬ (16777216 : Int) < n := by omega
  go_enter Try.func10, Try.ntmps10
  go_wp2
  go_ret
  exact ⟨w.heap.size, rfl, Nat.le_refl _, (by repeat (first | (with_reducible exact Ext.refl _) | (with_reducible refine Ext.undrew ?_) | (with_reducible refine Ext.grow ?_ _) | (with_reducible refine Ext.drew ?_) | (with_reducible refine Ext.drewN ?_ _) | (with_reducible refine Ext.alloc ?_ _) | (with_reducible assumption) | ((with_reducible refine Ext.setCell ?_ ?_ _); rotate_left; (first | exact Nat.le_refl _ | ((try dsimp only); (try simp only [World.size_alloc, grow_size, World.size_setCell]); omega))))), by simp, ⟨by simp [go_sem], by simp [go_sem]⟩, ⟨by simp [go_sem], by simp [go_sem]⟩, ownsAt_nil _ _ _ _, Nat.le_refl _, (fun g h => by cases h)⟩
theorem rqnew_no (n : Int) (w : World) (h : n < 1 ∨ 16777216 < n) : Calls Try.prog 10 #[.int .i64 n] w fun e w' => e = .returned (.pointer none) ∧ w' = w := by
  by_cases h0 : n < 1
  · go_enter Try.func10, Try.ntmps10
    go_wp2
    go_ret
    exact ⟨rfl, rfl⟩
  · have h1 : (16777216 : Int) < n := by omega
    go_enter Try.func10, Try.ntmps10
    go_wp2
    go_ret
    exact ⟨rfl, rfl⟩

end Go.Proofs.Ytlbemgkdpagoiaa
