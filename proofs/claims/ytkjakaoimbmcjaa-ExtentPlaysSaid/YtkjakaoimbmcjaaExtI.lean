/- Layer 12: the first run that fits. -/
import Derived.Test.YtkjakaoimbmcjaaExtG
namespace Go.Proofs.Ytkjakaoimbmcjaa
set_option linter.unusedSimpArgs false
set_option linter.unusedVariables false
open Go.RowKit

theorem eins_ (w : World) (base : Nat) (p : Pr) (vb : Nat) (hV : w.heap[vb]? = some (.cells #[.int .i64 p.lo, .int .i64 p.hi] 38 (0, 0))) (v : Value) (n i : Nat) (l : List Pr) (h : ownsAt w base 38 2 v n (prList l)) (hi : i ≤ n) (hbig : n ≤ 100000000) (hbase : base ≤ w.heap.size) (hvg : ∀ g, v.ownBlock = some g → vb ≠ g) :
    Calls Try.prog 29 #[v, .int .i64 i, .slice (some ⟨vb, 0, none⟩) 1 1] w fun e w' => ∃ v', e = .returned v' ∧ Hid (ownsAt w' base 38 2 v' (n + 1) (prList (l.take i ++ p :: l.drop i))) ∧ Hid (Only (fun k => v.ownBlock = some k) w w') ∧ ∀ g', v'.ownBlock = some g' → v.ownBlock = some g' ∨ w.heap.size ≤ g' := by
  by_cases hin : i = n
  · subst hin
    exact einsEnd_ w base p vb hV v i l h hbig hbase i rfl
  · rcases h.2 with ⟨_, h0⟩ | ⟨g, o', cap, cur, rfl, _, _, _⟩
    · omega
    · by_cases hr : n + 1 ≤ cap
      · exact einsIn_ w base p vb hV g _ n cap i l h (by omega) hr hbig (hvg g rfl)
      · exact einsGrow_ w base p vb hV g _ n cap i l h (by omega) hr hbig hbase
/-- Does a run have so many bytes? -/
def fits (n : Int) (x : Pr) : Bool := decide (n ≤ x.len)
def fitAt (n : Int) (l : List Pr) : Int := match l.findIdx? (fits n) with
  | some k => k
  | none => -1
set_option maxRecDepth 100000 in
set_option maxHeartbeats 4000000 in
theorem take1_ (n : Int) (xl xh d : Int) (B : Nat) (w : World) (hB : w.cell? ⟨B, 0, none⟩ = some (.int .i64 n)) (hb : B < w.heap.size) (hd : wrap64 (xh - xl) = d) :
    Calls Try.prog 24 #[.agg #[.int .i64 xl, .int .i64 xh], .pointer (some ⟨B, 0, none⟩)] w fun e w' => e = .returned (.bool (decide (n ≤ d))) ∧ Ext w w' := by
  have HD := hid hd
  clear hd
  go_enter Try.func24, Try.ntmps24
  go_upto_region 1 with (fail)
  refine wp_region_step (.rd 0 (.rd 2 (.ac 1 (.rd 3 (.rd 4 .done))))) (by kernel_rfl) (by kernel_rfl) (fun _ _ d _ _ h => by cases d <;> exact h) (by simp only [Ord.map, nthOp, List.append]; rfl) ?_
  intro d0
  repeat' (first | (refine step_read (by rfl) (fun K hK => ?_); go_big_quiet_op; refine hK _ ?_; clear hK K) | (refine step_act (by rfl) (fun K hK => ?_); go_wp2_with (first | (go_at_call 25; refine (len_ ⟨xl, xh⟩ d HD.out _).mono ?_; rintro e w1 ⟨rfl, hy⟩)); refine ⟨_, (by repeat (first | (with_reducible exact Ext.refl _) | (with_reducible refine Ext.undrew ?_) | (with_reducible refine Ext.grow ?_ _) | (with_reducible refine Ext.drew ?_) | (with_reducible refine Ext.drewN ?_ _) | (with_reducible refine Ext.alloc ?_ _) | (with_reducible assumption) | ((with_reducible refine Ext.setCell ?_ ?_ _); rotate_left; (first | exact Nat.le_refl _ | ((try dsimp only); (try simp only [World.size_alloc, grow_size, World.size_setCell]); omega))))), Ext.refl _, ?_⟩) | refine step_br ?_ ?_)
  all_goals refine step_nil ?_
  go_wp2
  go_ret
  exact ⟨rfl, Ext.trans (by repeat (first | (with_reducible exact Ext.refl _) | (with_reducible refine Ext.undrew ?_) | (with_reducible refine Ext.grow ?_ _) | (with_reducible refine Ext.drew ?_) | (with_reducible refine Ext.drewN ?_ _) | (with_reducible refine Ext.alloc ?_ _) | (with_reducible assumption) | ((with_reducible refine Ext.setCell ?_ ?_ _); rotate_left; (first | exact Nat.le_refl _ | ((try dsimp only); (try simp only [World.size_alloc, grow_size, World.size_setCell]); omega))))) hy⟩
set_option maxRecDepth 100000 in
set_option maxHeartbeats 4000000 in
theorem idxP_ (A : Option Addr) (c B : Nat) (n : Int) (l : List Pr) (w : World) (hr : RdP w A l) (hl : l.length ≤ 100000000) (ho : okF l) (hB : w.cell? ⟨B, 0, none⟩ = some (.int .i64 n)) (hb : B < w.heap.size) :
    Calls Try.prog 23 #[.slice A l.length c, .func (.func 24) #[] #[.pointer (some ⟨B, 0, none⟩)]] w fun e w' => e = .returned (.int .i64 (fitAt n l)) ∧ Ext w w' := by
  have HR := hid hr
  have HO := hid ho
  have HB := hid hB
  clear hr ho hB
  have hfn : ∀ args w', Sem.run Try.prog (callFunc 24 args) w' = .ok (.enter 24 args) w' := fun args w' => enterOf Try.func24 (by kernel_rfl) (by kernel_rfl) _ _
  go_enter Try.func23, Try.ntmps23
  go_wp2
  go_loopw [8] (fun i wr => ∃ k : Nat, k ≤ l.length ∧ i = .int .i64 k ∧ Hid (∀ j (h : j < l.length), j < k → fits n l[j] = false) ∧ Ext w wr) (fun i _ => l.length - (intOf i).toNat)
  case atStart => exact ⟨0, Nat.zero_le _, rfl, hid (fun j _ h => absurd h (by omega)), (by repeat (first | (with_reducible exact Ext.refl _) | (with_reducible refine Ext.undrew ?_) | (with_reducible refine Ext.grow ?_ _) | (with_reducible refine Ext.drew ?_) | (with_reducible refine Ext.drewN ?_ _) | (with_reducible refine Ext.alloc ?_ _) | (with_reducible assumption) | ((with_reducible refine Ext.setCell ?_ ?_ _); rotate_left; (first | exact Nat.le_refl _ | ((try dsimp only); (try simp only [World.size_alloc, grow_size, World.size_setCell]); omega)))))⟩
  case round =>
    obtain ⟨k, hk, rfl, HP, hx⟩ := hrel
    by_cases hlt : k < l.length
    · obtain ⟨b, o, rfl, hb0, c0, c1⟩ := (HR.out.ext hx).two hlt
      have hk1 : (k : Int) < (l.length : Int) := by omega
      have hk0 : (0 : Int) ≤ (k : Int) := by omega
      have hk2 : k + 1 ≤ l.length := by omega
      have hx1 := HO.out _ (List.getElem_mem hlt)
      have hBc : wr.cell? ⟨B, 0, none⟩ = some (.int .i64 n) := (hx.cells B 0 hb).trans HB.out
      have hBl : B < wr.heap.size := Nat.lt_of_lt_of_le hb hx.size
      have hd : wrap64 ((l[k]).hi - (l[k]).lo) = (l[k]).len := wrapP (by omega) (by omega)
      have hT := hid (take1_ n (l[k]).lo (l[k]).hi (l[k]).len B wr hBc hBl hd)
      have hfd : decide (n ≤ (l[k]).len) = fits n l[k] := rfl
      rw [hfd] at hT
      generalize (l[k]).lo = xl at c0 hT
      generalize (l[k]).hi = xh at c1 hT
      clear hx1 hd hBc hfd
      cases hg : fits n l[k] with
      | true =>
        rw [hg] at hT
        go_wp2_with (refine hT.out.mono ?_; rintro e w1 ⟨rfl, hy⟩)
        go_ret
        refine ⟨?_, hx.trans hy⟩
        have : l.findIdx? (fits n) = some k := List.findIdx?_eq_some_iff_getElem.2 ⟨hlt, hg, fun j hj => by rw [HP.out j (by omega) hj]; decide⟩
        unfold fitAt
        rw [this]
        rfl
      | false =>
        rw [hg] at hT
        go_wp2_with (refine hT.out.mono ?_; rintro e w1 ⟨rfl, hy⟩)
        go_roundw
        case rel => exact ⟨k + 1, hk2, by go_num, hid (fun j h hj => by
          rcases Nat.lt_or_ge j k with h1 | h1
          · exact HP.out j h h1
          · obtain rfl : j = k := by omega
            exact hg), hx.trans hy⟩
        case measure => simp [intOf]; omega
    · obtain rfl : k = l.length := by omega
      have hk1 : ¬ (l.length : Int) < (l.length : Int) := by omega
      go_wp2
      go_ret
      refine ⟨?_, hx⟩
      have : l.findIdx? (fits n) = none := List.findIdx?_eq_none_iff.2 fun x hxm => by
        obtain ⟨j, hj, rfl⟩ := List.mem_iff_getElem.1 hxm
        exact HP.out j hj hj
      unfold fitAt
      rw [this]
      rfl

end Go.Proofs.Ytkjakaoimbmcjaa
