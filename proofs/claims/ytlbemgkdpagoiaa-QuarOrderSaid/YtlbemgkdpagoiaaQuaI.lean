/- Layer 13: due, which is walked over. -/
import Derived.Test.YtlbemgkdpagoiaaQuaH
import Derived.Test.YtlbemgkdpagoiaaEpo
import Derived.RangeFuncNested
import Derived.RangeFuncBound
import Derived.RangeFuncCalls
import Derived.RangeFuncLeaves
import Derived.Shelf.Abstract
import Derived.Shelf.RegionOpen
import Derived.WalkKit
import Derived.OwnWalkIn
import Derived.TacticsInMore
import Derived.LoopNIn
import Derived.LoopIn
namespace Go.Proofs.Ytlbemgkdpagoiaa
set_option linter.unusedSimpArgs false
set_option linter.unusedVariables false
open Go.RowKit

attribute [local go_sem] Oper.semAt_some
set_option maxRecDepth 100000 in
set_option maxHeartbeats 4000000 in
theorem due_ (q : Nat) (now : Int) (w : World) : Calls Try.prog 29 #[.pointer (some ⟨q, 0, none⟩), .int .i64 now] w fun e w' => e = .returned (.func (.func 37) #[] #[.pointer (some ⟨w.heap.size, 0, none⟩), .pointer (some ⟨w.heap.size + 1, 0, none⟩)]) ∧ w' = (w.alloc (.cells #[.pointer (some ⟨q, 0, none⟩)] 24)).alloc (.cells #[.int .i64 now] 2) := by
  go_enter Try.func29, Try.ntmps29
  go_wp2
  go_ret
  exact ⟨rfl, rfl⟩
/-- Which are due. -/
def dueB (now : Int) (h : Hd) : Bool := decide (whenT h.time ≤ now)
theorem tw_go {α : Type} (p : α → Bool) : ∀ (l : List α) (k : Nat), k ≤ (l.takeWhile p).length → ∀ (h : k < l.length), p l[k] = true → k + 1 ≤ (l.takeWhile p).length
  | [], k, _, h, _ => by simp at h
  | x :: l, 0, _, _, hp => by simp only [List.getElem_cons_zero] at hp; simp [List.takeWhile, hp]
  | x :: l, k + 1, hk, h, hp => by
    cases hx : p x with
    | false => simp [List.takeWhile, hx] at hk
    | true =>
      simp only [List.takeWhile, hx, List.length_cons] at hk ⊢
      have := tw_go p l k (by omega) (by simpa using h) (by simpa using hp)
      omega
theorem tw_stop {α : Type} (p : α → Bool) : ∀ (l : List α) (k : Nat), k ≤ (l.takeWhile p).length → ∀ (h : k < l.length), p l[k] = false → l.take k = l.takeWhile p
  | [], k, _, h, _ => by simp at h
  | x :: l, 0, _, _, hp => by simp only [List.getElem_cons_zero] at hp; simp [List.takeWhile, hp]
  | x :: l, k + 1, hk, h, hp => by
    cases hx : p x with
    | false => simp [List.takeWhile, hx] at hk
    | true =>
      simp only [List.takeWhile, hx, List.length_cons] at hk ⊢
      rw [List.take_succ_cons, tw_stop p l k (by omega) (by simpa using h) (by simpa using hp)]
theorem tw_end {α : Type} (p : α → Bool) : ∀ (l : List α) (k : Nat), k ≤ (l.takeWhile p).length → l.length ≤ k → l.take k = l.takeWhile p
  | [], k, _, _ => by simp
  | x :: l, 0, _, h => by simp at h
  | x :: l, k + 1, hk, h => by
    cases hx : p x with
    | false => simp [List.takeWhile, hx] at hk
    | true =>
      simp only [List.takeWhile, hx, List.length_cons] at hk ⊢
      rw [List.take_succ_cons, tw_end p l k (by omega) (by simpa using h)]
/-- What a round keeps: all but the one's own block, and what lies behind. -/
def keepS (q lb n₀ : Nat) : Nat → Prop := fun i => i = q ∨ i = lb ∨ n₀ ≤ i
theorem gives_grown {W W' : World} (h : Ext W W') : W.grownBy W' none := ⟨h.os, h.tape, h.output, h.size, fun k hk _ => h.block k hk⟩
theorem wpIn_gen {F : Fence} {n : Nat} {P : Program} {a : Act} {Q : Exit → Act → World → Prop} {c : Code} {w : World} (I : World → Prop) (hI : I w) (h : ∀ w', I w' → c.wpIn F n P Q a w') : c.wpIn F n P Q a w := h w hI
theorem wpAnyIn_gen {F : Fence} {n : Nat} {P : Program} {md : Region.Mode} {ops : Array Oper} {fuel : Nat} {listed : Array Bool} {a : Act} {Q : Exit → Act → World → Prop} {w : World} (I : World → Prop) (hI : I w) (h : ∀ w', I w' → wpAnyIn F n P md ops Q fuel listed a w') : wpAnyIn F n P md ops Q fuel listed a w := h w hI
theorem Row.drew {w : World} {b o : Nat} {cs : List Value} (h : Row w b o cs) : Row w.drew b o cs := h.ext (Ext.drew (Ext.refl _))
set_option maxRecDepth 100000 in
set_option maxHeartbeats 4000000 in
theorem dueA_ (n : Nat) (hn : 2 ≤ n) (l0 q lb qb nb n₀ : Nat) (now : Int) (A : Option Addr) (ca m : Nat) (l : List Hd) (hm : l.length = m) (hm1 : m ≤ 1000000) (ht : ∀ h ∈ l, 0 ≤ h.time ∧ h.time ≤ 2199023255552) (J Jx : List Hd → World → Prop)
    (hY : ∀ pre x W, J pre W → pre.length < m → YieldAt Fence.wide (n - 1) Try.prog l0 #[.agg x.cells.toArray] W fun e W' =>
      (e = .returned (.bool true) ∧ J (pre ++ [x]) W' ∧ Only (keepS q lb n₀) W W') ∨ (e = .returned (.bool false) ∧ Jx (pre ++ [x]) W'))
    (W : World) (hJ : AbidesFrom W.heap.size J) (hn0 : n₀ ≤ W.heap.size)
    (hqb : W.cell? ⟨qb, 0, none⟩ = some (.pointer (some ⟨q, 0, none⟩)) ∧ qb < n₀ ∧ qb ≠ q ∧ qb ≠ lb) (hnb : W.cell? ⟨nb, 0, none⟩ = some (.int .i64 now) ∧ nb < n₀ ∧ nb ≠ q ∧ nb ≠ lb)
    (hq : W.cell? ⟨q, 2, none⟩ = some (.slice A m ca)) (hA : RdH W A l) (hA1 : ∀ b o, A = some ⟨b, o, none⟩ → b < n₀ ∧ b ≠ q ∧ b ≠ lb) (h0 : J [] W) :
    CallsIn Fence.wide n Try.prog 37 #[.func (.yield l0) #[] #[], .pointer (some ⟨qb, 0, none⟩), .pointer (some ⟨nb, 0, none⟩)] W fun e W' => (∃ v, e = .returned v) ∧
      ((∃ ys, ys = l.takeWhile (dueB now) ∧ J ys W') ∨ (∃ pre : List Hd, True ∧ Jx pre W')) := by
  refine callsIn_of_wp Try.func37 rfl trivial ?_ rfl
  simp only [Try.ntmps37]
  simp only [List.size_toArray, List.length_cons, List.length_nil, Nat.reduceAdd, Nat.reduceSub, Array.replicate_succ, Array.replicate_zero, List.push_toArray, List.append_toArray, List.nil_append, List.cons_append]
  have HA := hid hA
  have HY := hid hY
  have HJ := hid hJ
  have HM := hid hm
  clear hA hY hJ hm
  obtain ⟨hqb, hqb1, hqb2, hqb3⟩ := hqb
  obtain ⟨hnb, hnb1, hnb2, hnb3⟩ := hnb
  gi_wp2
  gi_loopw [11] (fun i wr => ∃ k : Nat, i = .int .i64 k ∧ Hid (k ≤ (l.takeWhile (dueB now)).length) ∧ Hid (J (l.take k) wr) ∧ Hid (Only (keepS q lb n₀) W wr)) (fun i _ => m - (intOf i).toNat)
  case atStart => exact ⟨0, rfl, hid (Nat.zero_le _), hid h0, hid (Only.refl _ _)⟩
  case round =>
    obtain ⟨k, rfl, hk, hJk, hO⟩ := hrel
    by_cases hlt : k < m
    · have hkS : ∀ b o, A = some ⟨b, o, none⟩ → ¬ keepS q lb n₀ b := fun b o e h => by
        have := hA1 b o e
        rcases h with h | h | h <;> omega
      obtain ⟨b1, o1, rfl, hb1, c0, c1, c2⟩ := HA.out.three (k := k) (by rw [HM.out]; exact hlt)
      have hbS := hkS b1 o1 rfl
      have hqS : ¬ keepS q lb n₀ qb := by rintro (h | h | h) <;> omega
      have hnS : ¬ keepS q lb n₀ nb := by rintro (h | h | h) <;> omega
      have c0 := (hO.out.cells b1 _ hb1 hbS).trans c0
      have c1 := (hO.out.cells b1 _ hb1 hbS).trans c1
      have c2 := (hO.out.cells b1 _ hb1 hbS).trans c2
      have d0 := (hO.out.cells qb 0 (by omega) hqS).trans hqb
      have d1 := (hO.out.cells nb 0 (by omega) hnS).trans hnb
      have hk0 : (0 : Int) ≤ (k : Int) := by omega
      have hk1 : (k : Int) < (m : Int) := by omega
      obtain ⟨x, hx⟩ : ∃ x, l[k]'(by rw [HM.out]; exact hlt) = x := ⟨_, rfl⟩
      rw [hx] at c0 c1 c2
      have htx : 0 ≤ x.time ∧ x.time ≤ 2199023255552 := ht x (by rw [← hx]; exact List.getElem_mem _)
      have HX := hid hx
      clear hx
      gi_wp2
      refine wpIn_gen (fun W2 => Hid (Ext wr W2) ∧ Hid (Row W2 wr.heap.size 0 x.cells)) ⟨hid (by repeat (first | (with_reducible exact Ext.refl _) | (with_reducible refine Ext.undrew ?_) | (with_reducible refine Ext.grow ?_ _) | (with_reducible refine Ext.drew ?_) | (with_reducible refine Ext.drewN ?_ _) | (with_reducible refine Ext.alloc ?_ _) | (with_reducible assumption) | ((with_reducible refine Ext.setCell ?_ ?_ _); rotate_left; (first | exact Nat.le_refl _ | ((try dsimp only); (try simp only [World.size_alloc, grow_size, World.size_setCell]); omega))))), hid (Row.new wr _ _)⟩ ?_
      rintro W2 ⟨hE2, hR2⟩
      refine wpIn_region_any (by kernel_rfl) ?_
      change wpAnyIn _ _ _ _ _ _ _ _ _ (World.drew _)
      refine wpAnyIn_gen (fun W3 => Hid (Ext wr W3) ∧ Hid (Row W3 wr.heap.size 0 x.cells)) ⟨hid (Ext.drew hE2.out), hid hR2.out.drew⟩ ?_
      clear hE2 hR2
      rintro W3 ⟨hE3, hR3⟩
      have hJ3 : Hid (J (l.take k) W3) := hid (HJ.out _ wr W3 none hJk.out (gives_grown hE3.out) (fun r e => by cases e))
      have hO3 := hid (Only.transExt hO.out hE3.out)
      have d3 := (hE3.out.cells nb 0 (Nat.lt_of_lt_of_le (by omega) hO.out.size)).trans d1
      generalize wr.heap.size = B at hR3 ⊢
      have e0 : W3.cell? ⟨B, 0, none⟩ = some (.int .i64 x.at_) := by simpa using hR3.out.at_ 0 _ rfl
      have e1 : W3.cell? ⟨B, 1, none⟩ = some (.int .i64 x.n) := by simpa using hR3.out.at_ 1 _ rfl
      have e2 : W3.cell? ⟨B, 2, none⟩ = some (.int .i64 x.time) := by simpa using hR3.out.at_ 2 _ rfl
      have ht0 : -9223372036854775808 ≤ x.time := by omega
      have ht1 : x.time ≤ 9223372036854775807 := by omega
      by_cases hdue : now < whenT x.time
      · have hdd : decide (now < whenT x.time) = true := by simpa using hdue
        refine wpAnyIn_take (i := 0) (v := ?_) rfl rfl (by kernel_rfl) (by kernel_rfl) (by kernel_rfl) (fun _ _ _ h => h) ⟨Or.inl ⟨by rfl, ?_⟩, fun _ => rfl⟩ ?_
        rotate_left
        · intro w; go_simp; (try with_reducible rfl)
        refine wpAnyIn_ready (rs := [1, 3]) (by kernel_rfl) (by simp) ?_
        refine AllReadyIn.cons rfl (fun K hK => ?_) ?_
        · go_simp
          refine hK _ _ ?_
          clear hK K
          refine wpAnyIn_ready (rs := [2, 3]) (by kernel_rfl) (by simp) ?_
          refine AllReadyIn.cons rfl (fun K hK => ?_) ?_
          · go_simp; refine ⟨trivial, (fun _ => by omega), ?_⟩; refine CallsIn.mono (callsIn_wide.2 (when_ _ _ ht0 ht1)) ?_; rintro e w1 ⟨rfl, rfl⟩; (try simp only [])
            refine hK _ _ ?_
            clear hK K
            refine wpAnyIn_ready (rs := [3]) (by kernel_rfl) (by simp) ?_
            refine AllReadyIn.cons rfl (fun K hK => ?_) ?_
            · go_simp
              refine hK _ _ ?_
              clear hK K
              refine wpAnyIn_take (i := 4) (v := ?_) rfl rfl (by kernel_rfl) (by kernel_rfl) (by kernel_rfl) (fun _ _ _ h => h) ⟨Or.inl ⟨by rfl, ?_⟩, fun _ => rfl⟩ ?_
              rotate_left
              · intro w; go_simp; (try with_reducible rfl)
              refine wpAnyIn_take (i := 5) (v := ?_) rfl rfl (by kernel_rfl) (by kernel_rfl) (by kernel_rfl) (fun _ _ _ h => h) ⟨Or.inl ⟨by rfl, ?_⟩, fun _ => rfl⟩ ?_
              rotate_left
              · intro w; go_simp; (try with_reducible rfl)
              refine wpAnyIn_ready (rs := [6, 7]) (by kernel_rfl) (by simp) ?_
              refine AllReadyIn.cons rfl (fun K hK => ?_) ?_
              · go_simp
                refine hK _ _ ?_
                clear hK K
                refine wpAnyIn_ready (rs := [7]) (by kernel_rfl) (by simp) ?_
                refine AllReadyIn.cons rfl (fun K hK => ?_) ?_
                · go_simp
                  refine hK _ _ ?_
                  clear hK K
                  refine wpAnyIn_ready (rs := [8]) (by kernel_rfl) (by simp) ?_
                  refine AllReadyIn.cons rfl (fun K hK => ?_) ?_
                  · (try go_simp); refine ⟨fun _ _ => trivial, ?_⟩
                    refine hK _ _ ?_
                    clear hK K
                    refine wpAnyIn_ready (rs := [9]) (by kernel_rfl) (by simp) ?_
                    refine AllReadyIn.cons rfl (fun K hK => ?_) ?_
                    · go_simp
                      refine hK _ _ ?_
                      clear hK K
                      refine wpAnyIn_take (i := 10) (v := ?_) rfl rfl (by kernel_rfl) (by kernel_rfl) (by kernel_rfl) (fun _ _ _ h => h) ⟨Or.inl ⟨by rfl, ?_⟩, fun _ => rfl⟩ ?_
                      rotate_left
                      · intro w; go_simp; (try with_reducible rfl)
                      refine wpAnyIn_done (by kernel_rfl) ?_ _
                      gi_wp2
                      refine bodyPost_ret (results_none rfl _ _ _) rfl ?_
                      exact ⟨⟨_, rfl⟩, .inl ⟨_, tw_stop _ l k hk.out (by rw [HM.out]; exact hlt) (by rw [HX.out]; simpa [dueB] using hdue), hJ3.out⟩⟩
                    exact AllReadyIn.nil
                  exact AllReadyIn.nil
                exact AllReadyIn.nil
              refine AllReadyIn.cons rfl (fun K hK => ?_) ?_
              · go_simp
                refine hK _ _ ?_
                clear hK K
                refine wpAnyIn_ready (rs := [6]) (by kernel_rfl) (by simp) ?_
                refine AllReadyIn.cons rfl (fun K hK => ?_) ?_
                · go_simp
                  refine hK _ _ ?_
                  clear hK K
                  refine wpAnyIn_ready (rs := [8]) (by kernel_rfl) (by simp) ?_
                  refine AllReadyIn.cons rfl (fun K hK => ?_) ?_
                  · (try go_simp); refine ⟨fun _ _ => trivial, ?_⟩
                    refine hK _ _ ?_
                    clear hK K
                    refine wpAnyIn_ready (rs := [9]) (by kernel_rfl) (by simp) ?_
                    refine AllReadyIn.cons rfl (fun K hK => ?_) ?_
                    · go_simp
                      refine hK _ _ ?_
                      clear hK K
                      refine wpAnyIn_take (i := 10) (v := ?_) rfl rfl (by kernel_rfl) (by kernel_rfl) (by kernel_rfl) (fun _ _ _ h => h) ⟨Or.inl ⟨by rfl, ?_⟩, fun _ => rfl⟩ ?_
                      rotate_left
                      · intro w; go_simp; (try with_reducible rfl)
                      refine wpAnyIn_done (by kernel_rfl) ?_ _
                      gi_wp2
                      refine bodyPost_ret (results_none rfl _ _ _) rfl ?_
                      exact ⟨⟨_, rfl⟩, .inl ⟨_, tw_stop _ l k hk.out (by rw [HM.out]; exact hlt) (by rw [HX.out]; simpa [dueB] using hdue), hJ3.out⟩⟩
                    exact AllReadyIn.nil
                  exact AllReadyIn.nil
                exact AllReadyIn.nil
              exact AllReadyIn.nil
            exact AllReadyIn.nil
          refine AllReadyIn.cons rfl (fun K hK => ?_) ?_
          · go_simp
            refine hK _ _ ?_
            clear hK K
            refine wpAnyIn_ready (rs := [2]) (by kernel_rfl) (by simp) ?_
            refine AllReadyIn.cons rfl (fun K hK => ?_) ?_
            · go_simp; refine ⟨trivial, (fun _ => by omega), ?_⟩; refine CallsIn.mono (callsIn_wide.2 (when_ _ _ ht0 ht1)) ?_; rintro e w1 ⟨rfl, rfl⟩; (try simp only [])
              refine hK _ _ ?_
              clear hK K
              refine wpAnyIn_take (i := 4) (v := ?_) rfl rfl (by kernel_rfl) (by kernel_rfl) (by kernel_rfl) (fun _ _ _ h => h) ⟨Or.inl ⟨by rfl, ?_⟩, fun _ => rfl⟩ ?_
              rotate_left
              · intro w; go_simp; (try with_reducible rfl)
              refine wpAnyIn_take (i := 5) (v := ?_) rfl rfl (by kernel_rfl) (by kernel_rfl) (by kernel_rfl) (fun _ _ _ h => h) ⟨Or.inl ⟨by rfl, ?_⟩, fun _ => rfl⟩ ?_
              rotate_left
              · intro w; go_simp; (try with_reducible rfl)
              refine wpAnyIn_ready (rs := [6, 7]) (by kernel_rfl) (by simp) ?_
              refine AllReadyIn.cons rfl (fun K hK => ?_) ?_
              · go_simp
                refine hK _ _ ?_
                clear hK K
                refine wpAnyIn_ready (rs := [7]) (by kernel_rfl) (by simp) ?_
                refine AllReadyIn.cons rfl (fun K hK => ?_) ?_
                · go_simp
                  refine hK _ _ ?_
                  clear hK K
                  refine wpAnyIn_ready (rs := [8]) (by kernel_rfl) (by simp) ?_
                  refine AllReadyIn.cons rfl (fun K hK => ?_) ?_
                  · (try go_simp); refine ⟨fun _ _ => trivial, ?_⟩
                    refine hK _ _ ?_
                    clear hK K
                    refine wpAnyIn_ready (rs := [9]) (by kernel_rfl) (by simp) ?_
                    refine AllReadyIn.cons rfl (fun K hK => ?_) ?_
                    · go_simp
                      refine hK _ _ ?_
                      clear hK K
                      refine wpAnyIn_take (i := 10) (v := ?_) rfl rfl (by kernel_rfl) (by kernel_rfl) (by kernel_rfl) (fun _ _ _ h => h) ⟨Or.inl ⟨by rfl, ?_⟩, fun _ => rfl⟩ ?_
                      rotate_left
                      · intro w; go_simp; (try with_reducible rfl)
                      refine wpAnyIn_done (by kernel_rfl) ?_ _
                      gi_wp2
                      refine bodyPost_ret (results_none rfl _ _ _) rfl ?_
                      exact ⟨⟨_, rfl⟩, .inl ⟨_, tw_stop _ l k hk.out (by rw [HM.out]; exact hlt) (by rw [HX.out]; simpa [dueB] using hdue), hJ3.out⟩⟩
                    exact AllReadyIn.nil
                  exact AllReadyIn.nil
                exact AllReadyIn.nil
              refine AllReadyIn.cons rfl (fun K hK => ?_) ?_
              · go_simp
                refine hK _ _ ?_
                clear hK K
                refine wpAnyIn_ready (rs := [6]) (by kernel_rfl) (by simp) ?_
                refine AllReadyIn.cons rfl (fun K hK => ?_) ?_
                · go_simp
                  refine hK _ _ ?_
                  clear hK K
                  refine wpAnyIn_ready (rs := [8]) (by kernel_rfl) (by simp) ?_
                  refine AllReadyIn.cons rfl (fun K hK => ?_) ?_
                  · (try go_simp); refine ⟨fun _ _ => trivial, ?_⟩
                    refine hK _ _ ?_
                    clear hK K
                    refine wpAnyIn_ready (rs := [9]) (by kernel_rfl) (by simp) ?_
                    refine AllReadyIn.cons rfl (fun K hK => ?_) ?_
                    · go_simp
                      refine hK _ _ ?_
                      clear hK K
                      refine wpAnyIn_take (i := 10) (v := ?_) rfl rfl (by kernel_rfl) (by kernel_rfl) (by kernel_rfl) (fun _ _ _ h => h) ⟨Or.inl ⟨by rfl, ?_⟩, fun _ => rfl⟩ ?_
                      rotate_left
                      · intro w; go_simp; (try with_reducible rfl)
                      refine wpAnyIn_done (by kernel_rfl) ?_ _
                      gi_wp2
                      refine bodyPost_ret (results_none rfl _ _ _) rfl ?_
                      exact ⟨⟨_, rfl⟩, .inl ⟨_, tw_stop _ l k hk.out (by rw [HM.out]; exact hlt) (by rw [HX.out]; simpa [dueB] using hdue), hJ3.out⟩⟩
                    exact AllReadyIn.nil
                  exact AllReadyIn.nil
                exact AllReadyIn.nil
              exact AllReadyIn.nil
            exact AllReadyIn.nil
          exact AllReadyIn.nil
        refine AllReadyIn.cons rfl (fun K hK => ?_) ?_
        · go_simp
          refine hK _ _ ?_
          clear hK K
          refine wpAnyIn_ready (rs := [1]) (by kernel_rfl) (by simp) ?_
          refine AllReadyIn.cons rfl (fun K hK => ?_) ?_
          · go_simp
            refine hK _ _ ?_
            clear hK K
            refine wpAnyIn_ready (rs := [2]) (by kernel_rfl) (by simp) ?_
            refine AllReadyIn.cons rfl (fun K hK => ?_) ?_
            · go_simp; refine ⟨trivial, (fun _ => by omega), ?_⟩; refine CallsIn.mono (callsIn_wide.2 (when_ _ _ ht0 ht1)) ?_; rintro e w1 ⟨rfl, rfl⟩; (try simp only [])
              refine hK _ _ ?_
              clear hK K
              refine wpAnyIn_take (i := 4) (v := ?_) rfl rfl (by kernel_rfl) (by kernel_rfl) (by kernel_rfl) (fun _ _ _ h => h) ⟨Or.inl ⟨by rfl, ?_⟩, fun _ => rfl⟩ ?_
              rotate_left
              · intro w; go_simp; (try with_reducible rfl)
              refine wpAnyIn_take (i := 5) (v := ?_) rfl rfl (by kernel_rfl) (by kernel_rfl) (by kernel_rfl) (fun _ _ _ h => h) ⟨Or.inl ⟨by rfl, ?_⟩, fun _ => rfl⟩ ?_
              rotate_left
              · intro w; go_simp; (try with_reducible rfl)
              refine wpAnyIn_ready (rs := [6, 7]) (by kernel_rfl) (by simp) ?_
              refine AllReadyIn.cons rfl (fun K hK => ?_) ?_
              · go_simp
                refine hK _ _ ?_
                clear hK K
                refine wpAnyIn_ready (rs := [7]) (by kernel_rfl) (by simp) ?_
                refine AllReadyIn.cons rfl (fun K hK => ?_) ?_
                · go_simp
                  refine hK _ _ ?_
                  clear hK K
                  refine wpAnyIn_ready (rs := [8]) (by kernel_rfl) (by simp) ?_
                  refine AllReadyIn.cons rfl (fun K hK => ?_) ?_
                  · (try go_simp); refine ⟨fun _ _ => trivial, ?_⟩
                    refine hK _ _ ?_
                    clear hK K
                    refine wpAnyIn_ready (rs := [9]) (by kernel_rfl) (by simp) ?_
                    refine AllReadyIn.cons rfl (fun K hK => ?_) ?_
                    · go_simp
                      refine hK _ _ ?_
                      clear hK K
                      refine wpAnyIn_take (i := 10) (v := ?_) rfl rfl (by kernel_rfl) (by kernel_rfl) (by kernel_rfl) (fun _ _ _ h => h) ⟨Or.inl ⟨by rfl, ?_⟩, fun _ => rfl⟩ ?_
                      rotate_left
                      · intro w; go_simp; (try with_reducible rfl)
                      refine wpAnyIn_done (by kernel_rfl) ?_ _
                      gi_wp2
                      refine bodyPost_ret (results_none rfl _ _ _) rfl ?_
                      exact ⟨⟨_, rfl⟩, .inl ⟨_, tw_stop _ l k hk.out (by rw [HM.out]; exact hlt) (by rw [HX.out]; simpa [dueB] using hdue), hJ3.out⟩⟩
                    exact AllReadyIn.nil
                  exact AllReadyIn.nil
                exact AllReadyIn.nil
              refine AllReadyIn.cons rfl (fun K hK => ?_) ?_
              · go_simp
                refine hK _ _ ?_
                clear hK K
                refine wpAnyIn_ready (rs := [6]) (by kernel_rfl) (by simp) ?_
                refine AllReadyIn.cons rfl (fun K hK => ?_) ?_
                · go_simp
                  refine hK _ _ ?_
                  clear hK K
                  refine wpAnyIn_ready (rs := [8]) (by kernel_rfl) (by simp) ?_
                  refine AllReadyIn.cons rfl (fun K hK => ?_) ?_
                  · (try go_simp); refine ⟨fun _ _ => trivial, ?_⟩
                    refine hK _ _ ?_
                    clear hK K
                    refine wpAnyIn_ready (rs := [9]) (by kernel_rfl) (by simp) ?_
                    refine AllReadyIn.cons rfl (fun K hK => ?_) ?_
                    · go_simp
                      refine hK _ _ ?_
                      clear hK K
                      refine wpAnyIn_take (i := 10) (v := ?_) rfl rfl (by kernel_rfl) (by kernel_rfl) (by kernel_rfl) (fun _ _ _ h => h) ⟨Or.inl ⟨by rfl, ?_⟩, fun _ => rfl⟩ ?_
                      rotate_left
                      · intro w; go_simp; (try with_reducible rfl)
                      refine wpAnyIn_done (by kernel_rfl) ?_ _
                      gi_wp2
                      refine bodyPost_ret (results_none rfl _ _ _) rfl ?_
                      exact ⟨⟨_, rfl⟩, .inl ⟨_, tw_stop _ l k hk.out (by rw [HM.out]; exact hlt) (by rw [HX.out]; simpa [dueB] using hdue), hJ3.out⟩⟩
                    exact AllReadyIn.nil
                  exact AllReadyIn.nil
                exact AllReadyIn.nil
              exact AllReadyIn.nil
            exact AllReadyIn.nil
          exact AllReadyIn.nil
        exact AllReadyIn.nil

      · have hdd : decide (now < whenT x.time) = false := by simpa using hdue
        obtain ⟨fn, tmps, assign, body, hy, hR⟩ := HY.out (l.take k) x W3 hJ3.out (by rw [List.length_take, HM.out]; omega)
        have hy : (Instr.yield l0 #[Value.agg #[.int .i64 x.at_, .int .i64 x.n, .int .i64 x.time]]).run Try.prog W3 = .ok (.round l0 fn tmps assign body) W3 := hy
        clear HY
        refine wpAnyIn_take (i := 0) (v := ?_) rfl rfl (by kernel_rfl) (by kernel_rfl) (by kernel_rfl) (fun _ _ _ h => h) ⟨Or.inl ⟨by rfl, ?_⟩, fun _ => rfl⟩ ?_
        rotate_left
        · intro w; go_simp; (try with_reducible rfl)
        refine wpAnyIn_ready (rs := [1, 3]) (by kernel_rfl) (by simp) ?_
        refine AllReadyIn.cons rfl (fun K hK => ?_) ?_
        · go_simp
          refine hK _ _ ?_
          clear hK K
          refine wpAnyIn_ready (rs := [2, 3]) (by kernel_rfl) (by simp) ?_
          refine AllReadyIn.cons rfl (fun K hK => ?_) ?_
          · go_simp; refine ⟨trivial, (fun _ => by omega), ?_⟩; refine CallsIn.mono (callsIn_wide.2 (when_ _ _ ht0 ht1)) ?_; rintro e w1 ⟨rfl, rfl⟩; (try simp only [])
            refine hK _ _ ?_
            clear hK K
            refine wpAnyIn_ready (rs := [3]) (by kernel_rfl) (by simp) ?_
            refine AllReadyIn.cons rfl (fun K hK => ?_) ?_
            · go_simp
              refine hK _ _ ?_
              clear hK K
              refine wpAnyIn_take (i := 4) (v := ?_) rfl rfl (by kernel_rfl) (by kernel_rfl) (by kernel_rfl) (fun _ _ _ h => h) ⟨Or.inl ⟨by rfl, ?_⟩, fun _ => rfl⟩ ?_
              rotate_left
              · intro w; go_simp; (try with_reducible rfl)
              refine wpAnyIn_take (i := 5) (v := ?_) rfl rfl (by kernel_rfl) (by kernel_rfl) (by kernel_rfl) (fun _ _ _ h => h) ⟨Or.inl ⟨by rfl, ?_⟩, fun _ => rfl⟩ ?_
              rotate_left
              · intro w; go_simp; (try with_reducible rfl)
              refine wpAnyIn_ready (rs := [6, 7]) (by kernel_rfl) (by simp) ?_
              refine AllReadyIn.cons rfl (fun K hK => ?_) ?_
              · go_simp
                refine hK _ _ ?_
                clear hK K
                refine wpAnyIn_ready (rs := [7]) (by kernel_rfl) (by simp) ?_
                refine AllReadyIn.cons rfl (fun K hK => ?_) ?_
                · go_simp
                  refine hK _ _ ?_
                  clear hK K
                  refine wpAnyIn_ready (rs := [8]) (by kernel_rfl) (by simp) ?_
                  refine AllReadyIn.cons rfl (fun K hK => ?_) ?_
                  · go_simp; refine ⟨(fun _ => by omega), ?_⟩; refine hR.mono ?_; clear hR hy; rintro e W4 (⟨rfl, hJ4, hk4⟩ | ⟨rfl, hJx4⟩)
                    · (try simp only [])
                      refine hK _ _ ?_
                      clear hK K
                      refine wpAnyIn_ready (rs := [9]) (by kernel_rfl) (by simp) ?_
                      refine AllReadyIn.cons rfl (fun K hK => ?_) ?_
                      · go_simp
                        refine hK _ _ ?_
                        clear hK K
                        refine wpAnyIn_take (i := 10) (v := ?_) rfl rfl (by kernel_rfl) (by kernel_rfl) (by kernel_rfl) (fun _ _ _ h => h) ⟨Or.inl ⟨by rfl, ?_⟩, fun _ => rfl⟩ ?_
                        rotate_left
                        · intro w; go_simp; (try with_reducible rfl)
                        refine wpAnyIn_done (by kernel_rfl) ?_ _
                        have hk1 := hk.out
                        have h4 := tw_go _ l k hk.out (by rw [HM.out]; exact hlt) (by rw [HX.out]; simpa [dueB] using hdue)
                        gi_wp2
                        go_roundw
                        case rel => exact ⟨k + 1, by go_num, hid h4, hid (by rw [List.take_succ_eq_append_getElem (by rw [HM.out]; exact hlt), HX.out]; exact hJ4), hid (hO3.out.trans' hk4)⟩
                        case measure => simp [intOf]; omega
                      exact AllReadyIn.nil
                    · (try simp only [])
                      refine hK _ _ ?_
                      clear hK K
                      refine wpAnyIn_ready (rs := [9]) (by kernel_rfl) (by simp) ?_
                      refine AllReadyIn.cons rfl (fun K hK => ?_) ?_
                      · go_simp
                        refine hK _ _ ?_
                        clear hK K
                        refine wpAnyIn_take (i := 10) (v := ?_) rfl rfl (by kernel_rfl) (by kernel_rfl) (by kernel_rfl) (fun _ _ _ h => h) ⟨Or.inl ⟨by rfl, ?_⟩, fun _ => rfl⟩ ?_
                        rotate_left
                        · intro w; go_simp; (try with_reducible rfl)
                        refine wpAnyIn_done (by kernel_rfl) ?_ _
                        gi_wp2
                        refine bodyPost_ret (results_none rfl _ _ _) rfl ?_
                        exact ⟨⟨_, rfl⟩, .inr ⟨_, (by first | exact ⟨trivial, hJx4⟩ | exact hJx4)⟩⟩
                      exact AllReadyIn.nil
                  exact AllReadyIn.nil
                exact AllReadyIn.nil
              refine AllReadyIn.cons rfl (fun K hK => ?_) ?_
              · go_simp
                refine hK _ _ ?_
                clear hK K
                refine wpAnyIn_ready (rs := [6]) (by kernel_rfl) (by simp) ?_
                refine AllReadyIn.cons rfl (fun K hK => ?_) ?_
                · go_simp
                  refine hK _ _ ?_
                  clear hK K
                  refine wpAnyIn_ready (rs := [8]) (by kernel_rfl) (by simp) ?_
                  refine AllReadyIn.cons rfl (fun K hK => ?_) ?_
                  · go_simp; refine ⟨(fun _ => by omega), ?_⟩; refine hR.mono ?_; clear hR hy; rintro e W4 (⟨rfl, hJ4, hk4⟩ | ⟨rfl, hJx4⟩)
                    · (try simp only [])
                      refine hK _ _ ?_
                      clear hK K
                      refine wpAnyIn_ready (rs := [9]) (by kernel_rfl) (by simp) ?_
                      refine AllReadyIn.cons rfl (fun K hK => ?_) ?_
                      · go_simp
                        refine hK _ _ ?_
                        clear hK K
                        refine wpAnyIn_take (i := 10) (v := ?_) rfl rfl (by kernel_rfl) (by kernel_rfl) (by kernel_rfl) (fun _ _ _ h => h) ⟨Or.inl ⟨by rfl, ?_⟩, fun _ => rfl⟩ ?_
                        rotate_left
                        · intro w; go_simp; (try with_reducible rfl)
                        refine wpAnyIn_done (by kernel_rfl) ?_ _
                        have hk1 := hk.out
                        have h4 := tw_go _ l k hk.out (by rw [HM.out]; exact hlt) (by rw [HX.out]; simpa [dueB] using hdue)
                        gi_wp2
                        go_roundw
                        case rel => exact ⟨k + 1, by go_num, hid h4, hid (by rw [List.take_succ_eq_append_getElem (by rw [HM.out]; exact hlt), HX.out]; exact hJ4), hid (hO3.out.trans' hk4)⟩
                        case measure => simp [intOf]; omega
                      exact AllReadyIn.nil
                    · (try simp only [])
                      refine hK _ _ ?_
                      clear hK K
                      refine wpAnyIn_ready (rs := [9]) (by kernel_rfl) (by simp) ?_
                      refine AllReadyIn.cons rfl (fun K hK => ?_) ?_
                      · go_simp
                        refine hK _ _ ?_
                        clear hK K
                        refine wpAnyIn_take (i := 10) (v := ?_) rfl rfl (by kernel_rfl) (by kernel_rfl) (by kernel_rfl) (fun _ _ _ h => h) ⟨Or.inl ⟨by rfl, ?_⟩, fun _ => rfl⟩ ?_
                        rotate_left
                        · intro w; go_simp; (try with_reducible rfl)
                        refine wpAnyIn_done (by kernel_rfl) ?_ _
                        gi_wp2
                        refine bodyPost_ret (results_none rfl _ _ _) rfl ?_
                        exact ⟨⟨_, rfl⟩, .inr ⟨_, (by first | exact ⟨trivial, hJx4⟩ | exact hJx4)⟩⟩
                      exact AllReadyIn.nil
                  exact AllReadyIn.nil
                exact AllReadyIn.nil
              exact AllReadyIn.nil
            exact AllReadyIn.nil
          refine AllReadyIn.cons rfl (fun K hK => ?_) ?_
          · go_simp
            refine hK _ _ ?_
            clear hK K
            refine wpAnyIn_ready (rs := [2]) (by kernel_rfl) (by simp) ?_
            refine AllReadyIn.cons rfl (fun K hK => ?_) ?_
            · go_simp; refine ⟨trivial, (fun _ => by omega), ?_⟩; refine CallsIn.mono (callsIn_wide.2 (when_ _ _ ht0 ht1)) ?_; rintro e w1 ⟨rfl, rfl⟩; (try simp only [])
              refine hK _ _ ?_
              clear hK K
              refine wpAnyIn_take (i := 4) (v := ?_) rfl rfl (by kernel_rfl) (by kernel_rfl) (by kernel_rfl) (fun _ _ _ h => h) ⟨Or.inl ⟨by rfl, ?_⟩, fun _ => rfl⟩ ?_
              rotate_left
              · intro w; go_simp; (try with_reducible rfl)
              refine wpAnyIn_take (i := 5) (v := ?_) rfl rfl (by kernel_rfl) (by kernel_rfl) (by kernel_rfl) (fun _ _ _ h => h) ⟨Or.inl ⟨by rfl, ?_⟩, fun _ => rfl⟩ ?_
              rotate_left
              · intro w; go_simp; (try with_reducible rfl)
              refine wpAnyIn_ready (rs := [6, 7]) (by kernel_rfl) (by simp) ?_
              refine AllReadyIn.cons rfl (fun K hK => ?_) ?_
              · go_simp
                refine hK _ _ ?_
                clear hK K
                refine wpAnyIn_ready (rs := [7]) (by kernel_rfl) (by simp) ?_
                refine AllReadyIn.cons rfl (fun K hK => ?_) ?_
                · go_simp
                  refine hK _ _ ?_
                  clear hK K
                  refine wpAnyIn_ready (rs := [8]) (by kernel_rfl) (by simp) ?_
                  refine AllReadyIn.cons rfl (fun K hK => ?_) ?_
                  · go_simp; refine ⟨(fun _ => by omega), ?_⟩; refine hR.mono ?_; clear hR hy; rintro e W4 (⟨rfl, hJ4, hk4⟩ | ⟨rfl, hJx4⟩)
                    · (try simp only [])
                      refine hK _ _ ?_
                      clear hK K
                      refine wpAnyIn_ready (rs := [9]) (by kernel_rfl) (by simp) ?_
                      refine AllReadyIn.cons rfl (fun K hK => ?_) ?_
                      · go_simp
                        refine hK _ _ ?_
                        clear hK K
                        refine wpAnyIn_take (i := 10) (v := ?_) rfl rfl (by kernel_rfl) (by kernel_rfl) (by kernel_rfl) (fun _ _ _ h => h) ⟨Or.inl ⟨by rfl, ?_⟩, fun _ => rfl⟩ ?_
                        rotate_left
                        · intro w; go_simp; (try with_reducible rfl)
                        refine wpAnyIn_done (by kernel_rfl) ?_ _
                        have hk1 := hk.out
                        have h4 := tw_go _ l k hk.out (by rw [HM.out]; exact hlt) (by rw [HX.out]; simpa [dueB] using hdue)
                        gi_wp2
                        go_roundw
                        case rel => exact ⟨k + 1, by go_num, hid h4, hid (by rw [List.take_succ_eq_append_getElem (by rw [HM.out]; exact hlt), HX.out]; exact hJ4), hid (hO3.out.trans' hk4)⟩
                        case measure => simp [intOf]; omega
                      exact AllReadyIn.nil
                    · (try simp only [])
                      refine hK _ _ ?_
                      clear hK K
                      refine wpAnyIn_ready (rs := [9]) (by kernel_rfl) (by simp) ?_
                      refine AllReadyIn.cons rfl (fun K hK => ?_) ?_
                      · go_simp
                        refine hK _ _ ?_
                        clear hK K
                        refine wpAnyIn_take (i := 10) (v := ?_) rfl rfl (by kernel_rfl) (by kernel_rfl) (by kernel_rfl) (fun _ _ _ h => h) ⟨Or.inl ⟨by rfl, ?_⟩, fun _ => rfl⟩ ?_
                        rotate_left
                        · intro w; go_simp; (try with_reducible rfl)
                        refine wpAnyIn_done (by kernel_rfl) ?_ _
                        gi_wp2
                        refine bodyPost_ret (results_none rfl _ _ _) rfl ?_
                        exact ⟨⟨_, rfl⟩, .inr ⟨_, (by first | exact ⟨trivial, hJx4⟩ | exact hJx4)⟩⟩
                      exact AllReadyIn.nil
                  exact AllReadyIn.nil
                exact AllReadyIn.nil
              refine AllReadyIn.cons rfl (fun K hK => ?_) ?_
              · go_simp
                refine hK _ _ ?_
                clear hK K
                refine wpAnyIn_ready (rs := [6]) (by kernel_rfl) (by simp) ?_
                refine AllReadyIn.cons rfl (fun K hK => ?_) ?_
                · go_simp
                  refine hK _ _ ?_
                  clear hK K
                  refine wpAnyIn_ready (rs := [8]) (by kernel_rfl) (by simp) ?_
                  refine AllReadyIn.cons rfl (fun K hK => ?_) ?_
                  · go_simp; refine ⟨(fun _ => by omega), ?_⟩; refine hR.mono ?_; clear hR hy; rintro e W4 (⟨rfl, hJ4, hk4⟩ | ⟨rfl, hJx4⟩)
                    · (try simp only [])
                      refine hK _ _ ?_
                      clear hK K
                      refine wpAnyIn_ready (rs := [9]) (by kernel_rfl) (by simp) ?_
                      refine AllReadyIn.cons rfl (fun K hK => ?_) ?_
                      · go_simp
                        refine hK _ _ ?_
                        clear hK K
                        refine wpAnyIn_take (i := 10) (v := ?_) rfl rfl (by kernel_rfl) (by kernel_rfl) (by kernel_rfl) (fun _ _ _ h => h) ⟨Or.inl ⟨by rfl, ?_⟩, fun _ => rfl⟩ ?_
                        rotate_left
                        · intro w; go_simp; (try with_reducible rfl)
                        refine wpAnyIn_done (by kernel_rfl) ?_ _
                        have hk1 := hk.out
                        have h4 := tw_go _ l k hk.out (by rw [HM.out]; exact hlt) (by rw [HX.out]; simpa [dueB] using hdue)
                        gi_wp2
                        go_roundw
                        case rel => exact ⟨k + 1, by go_num, hid h4, hid (by rw [List.take_succ_eq_append_getElem (by rw [HM.out]; exact hlt), HX.out]; exact hJ4), hid (hO3.out.trans' hk4)⟩
                        case measure => simp [intOf]; omega
                      exact AllReadyIn.nil
                    · (try simp only [])
                      refine hK _ _ ?_
                      clear hK K
                      refine wpAnyIn_ready (rs := [9]) (by kernel_rfl) (by simp) ?_
                      refine AllReadyIn.cons rfl (fun K hK => ?_) ?_
                      · go_simp
                        refine hK _ _ ?_
                        clear hK K
                        refine wpAnyIn_take (i := 10) (v := ?_) rfl rfl (by kernel_rfl) (by kernel_rfl) (by kernel_rfl) (fun _ _ _ h => h) ⟨Or.inl ⟨by rfl, ?_⟩, fun _ => rfl⟩ ?_
                        rotate_left
                        · intro w; go_simp; (try with_reducible rfl)
                        refine wpAnyIn_done (by kernel_rfl) ?_ _
                        gi_wp2
                        refine bodyPost_ret (results_none rfl _ _ _) rfl ?_
                        exact ⟨⟨_, rfl⟩, .inr ⟨_, (by first | exact ⟨trivial, hJx4⟩ | exact hJx4)⟩⟩
                      exact AllReadyIn.nil
                  exact AllReadyIn.nil
                exact AllReadyIn.nil
              exact AllReadyIn.nil
            exact AllReadyIn.nil
          exact AllReadyIn.nil
        refine AllReadyIn.cons rfl (fun K hK => ?_) ?_
        · go_simp
          refine hK _ _ ?_
          clear hK K
          refine wpAnyIn_ready (rs := [1]) (by kernel_rfl) (by simp) ?_
          refine AllReadyIn.cons rfl (fun K hK => ?_) ?_
          · go_simp
            refine hK _ _ ?_
            clear hK K
            refine wpAnyIn_ready (rs := [2]) (by kernel_rfl) (by simp) ?_
            refine AllReadyIn.cons rfl (fun K hK => ?_) ?_
            · go_simp; refine ⟨trivial, (fun _ => by omega), ?_⟩; refine CallsIn.mono (callsIn_wide.2 (when_ _ _ ht0 ht1)) ?_; rintro e w1 ⟨rfl, rfl⟩; (try simp only [])
              refine hK _ _ ?_
              clear hK K
              refine wpAnyIn_take (i := 4) (v := ?_) rfl rfl (by kernel_rfl) (by kernel_rfl) (by kernel_rfl) (fun _ _ _ h => h) ⟨Or.inl ⟨by rfl, ?_⟩, fun _ => rfl⟩ ?_
              rotate_left
              · intro w; go_simp; (try with_reducible rfl)
              refine wpAnyIn_take (i := 5) (v := ?_) rfl rfl (by kernel_rfl) (by kernel_rfl) (by kernel_rfl) (fun _ _ _ h => h) ⟨Or.inl ⟨by rfl, ?_⟩, fun _ => rfl⟩ ?_
              rotate_left
              · intro w; go_simp; (try with_reducible rfl)
              refine wpAnyIn_ready (rs := [6, 7]) (by kernel_rfl) (by simp) ?_
              refine AllReadyIn.cons rfl (fun K hK => ?_) ?_
              · go_simp
                refine hK _ _ ?_
                clear hK K
                refine wpAnyIn_ready (rs := [7]) (by kernel_rfl) (by simp) ?_
                refine AllReadyIn.cons rfl (fun K hK => ?_) ?_
                · go_simp
                  refine hK _ _ ?_
                  clear hK K
                  refine wpAnyIn_ready (rs := [8]) (by kernel_rfl) (by simp) ?_
                  refine AllReadyIn.cons rfl (fun K hK => ?_) ?_
                  · go_simp; refine ⟨(fun _ => by omega), ?_⟩; refine hR.mono ?_; clear hR hy; rintro e W4 (⟨rfl, hJ4, hk4⟩ | ⟨rfl, hJx4⟩)
                    · (try simp only [])
                      refine hK _ _ ?_
                      clear hK K
                      refine wpAnyIn_ready (rs := [9]) (by kernel_rfl) (by simp) ?_
                      refine AllReadyIn.cons rfl (fun K hK => ?_) ?_
                      · go_simp
                        refine hK _ _ ?_
                        clear hK K
                        refine wpAnyIn_take (i := 10) (v := ?_) rfl rfl (by kernel_rfl) (by kernel_rfl) (by kernel_rfl) (fun _ _ _ h => h) ⟨Or.inl ⟨by rfl, ?_⟩, fun _ => rfl⟩ ?_
                        rotate_left
                        · intro w; go_simp; (try with_reducible rfl)
                        refine wpAnyIn_done (by kernel_rfl) ?_ _
                        have hk1 := hk.out
                        have h4 := tw_go _ l k hk.out (by rw [HM.out]; exact hlt) (by rw [HX.out]; simpa [dueB] using hdue)
                        gi_wp2
                        go_roundw
                        case rel => exact ⟨k + 1, by go_num, hid h4, hid (by rw [List.take_succ_eq_append_getElem (by rw [HM.out]; exact hlt), HX.out]; exact hJ4), hid (hO3.out.trans' hk4)⟩
                        case measure => simp [intOf]; omega
                      exact AllReadyIn.nil
                    · (try simp only [])
                      refine hK _ _ ?_
                      clear hK K
                      refine wpAnyIn_ready (rs := [9]) (by kernel_rfl) (by simp) ?_
                      refine AllReadyIn.cons rfl (fun K hK => ?_) ?_
                      · go_simp
                        refine hK _ _ ?_
                        clear hK K
                        refine wpAnyIn_take (i := 10) (v := ?_) rfl rfl (by kernel_rfl) (by kernel_rfl) (by kernel_rfl) (fun _ _ _ h => h) ⟨Or.inl ⟨by rfl, ?_⟩, fun _ => rfl⟩ ?_
                        rotate_left
                        · intro w; go_simp; (try with_reducible rfl)
                        refine wpAnyIn_done (by kernel_rfl) ?_ _
                        gi_wp2
                        refine bodyPost_ret (results_none rfl _ _ _) rfl ?_
                        exact ⟨⟨_, rfl⟩, .inr ⟨_, (by first | exact ⟨trivial, hJx4⟩ | exact hJx4)⟩⟩
                      exact AllReadyIn.nil
                  exact AllReadyIn.nil
                exact AllReadyIn.nil
              refine AllReadyIn.cons rfl (fun K hK => ?_) ?_
              · go_simp
                refine hK _ _ ?_
                clear hK K
                refine wpAnyIn_ready (rs := [6]) (by kernel_rfl) (by simp) ?_
                refine AllReadyIn.cons rfl (fun K hK => ?_) ?_
                · go_simp
                  refine hK _ _ ?_
                  clear hK K
                  refine wpAnyIn_ready (rs := [8]) (by kernel_rfl) (by simp) ?_
                  refine AllReadyIn.cons rfl (fun K hK => ?_) ?_
                  · go_simp; refine ⟨(fun _ => by omega), ?_⟩; refine hR.mono ?_; clear hR hy; rintro e W4 (⟨rfl, hJ4, hk4⟩ | ⟨rfl, hJx4⟩)
                    · (try simp only [])
                      refine hK _ _ ?_
                      clear hK K
                      refine wpAnyIn_ready (rs := [9]) (by kernel_rfl) (by simp) ?_
                      refine AllReadyIn.cons rfl (fun K hK => ?_) ?_
                      · go_simp
                        refine hK _ _ ?_
                        clear hK K
                        refine wpAnyIn_take (i := 10) (v := ?_) rfl rfl (by kernel_rfl) (by kernel_rfl) (by kernel_rfl) (fun _ _ _ h => h) ⟨Or.inl ⟨by rfl, ?_⟩, fun _ => rfl⟩ ?_
                        rotate_left
                        · intro w; go_simp; (try with_reducible rfl)
                        refine wpAnyIn_done (by kernel_rfl) ?_ _
                        have hk1 := hk.out
                        have h4 := tw_go _ l k hk.out (by rw [HM.out]; exact hlt) (by rw [HX.out]; simpa [dueB] using hdue)
                        gi_wp2
                        go_roundw
                        case rel => exact ⟨k + 1, by go_num, hid h4, hid (by rw [List.take_succ_eq_append_getElem (by rw [HM.out]; exact hlt), HX.out]; exact hJ4), hid (hO3.out.trans' hk4)⟩
                        case measure => simp [intOf]; omega
                      exact AllReadyIn.nil
                    · (try simp only [])
                      refine hK _ _ ?_
                      clear hK K
                      refine wpAnyIn_ready (rs := [9]) (by kernel_rfl) (by simp) ?_
                      refine AllReadyIn.cons rfl (fun K hK => ?_) ?_
                      · go_simp
                        refine hK _ _ ?_
                        clear hK K
                        refine wpAnyIn_take (i := 10) (v := ?_) rfl rfl (by kernel_rfl) (by kernel_rfl) (by kernel_rfl) (fun _ _ _ h => h) ⟨Or.inl ⟨by rfl, ?_⟩, fun _ => rfl⟩ ?_
                        rotate_left
                        · intro w; go_simp; (try with_reducible rfl)
                        refine wpAnyIn_done (by kernel_rfl) ?_ _
                        gi_wp2
                        refine bodyPost_ret (results_none rfl _ _ _) rfl ?_
                        exact ⟨⟨_, rfl⟩, .inr ⟨_, (by first | exact ⟨trivial, hJx4⟩ | exact hJx4)⟩⟩
                      exact AllReadyIn.nil
                  exact AllReadyIn.nil
                exact AllReadyIn.nil
              exact AllReadyIn.nil
            exact AllReadyIn.nil
          exact AllReadyIn.nil
        exact AllReadyIn.nil

    · gi_wp2
      go_end0
      exact ⟨⟨_, rfl⟩, .inl ⟨_, tw_end _ l k hk.out (by rw [HM.out]; omega), hJk.out⟩⟩

end Go.Proofs.Ytlbemgkdpagoiaa
