/- Layer 19: the document's Put. -/
import Derived.Test.YtfpfmjcajdknoaaFraR
import Derived.Test.YtfpfmjcajdknoaaStepO
import Derived.Deep.Onto
namespace Go.Proofs.Ytfpfmjcajdknoaa
set_option linter.unusedSimpArgs false
set_option linter.unusedVariables false
open Go.RowKit

open Go.Deep Go.RowKit
theorem quiet_runD {P : Program} {o : Oper} {a : Act} {C : World → Prop} {K : Act → Prop} (d : Nat) (_ : o.dst = some d) (v : Value) (h : ∀ w, (execOp a.eval o).run P w = .ok (.value v) w) (k : K (a.put o.dst v)) : o.quiet P a C K := quiet_run v h k
theorem turn_gen {q : Nat} {P : Program} {ops : Array Oper} {Q : Exit → Act → World → Prop} {r : Ord Oper} {W : World} {a : Act} {w : World} (I : World → Prop) (hI : I w) (h : ∀ w', I w' → wpTurn q P ops Q r W a w') : wpTurn q P ops Q r W a w := h w hI
set_option maxRecDepth 100000 in
set_option maxHeartbeats 4000000 in
theorem rput_len (q base n m ca : Nat) (A : Option Addr) (v : Value) (L : Nat → Cap) (w : World) (h : RStk w q base v n L) (hn : n ≤ 100000) (hm : ¬ m = n * 5) (hmm : m ≤ 1000000) :
    Calls Try.prog 14 #[.pointer (some ⟨q, 0, none⟩), .slice A m ca] w fun e w' => e = .returned (.bool false) ∧ w = w' := by
  obtain ⟨V, cv, rfl, _, _⟩ := h.slice
  have HS := hid h
  have hq := h.1
  have hc := h.2.1
  have hwn : wrap64 (5 * (n : Int)) = 5 * (n : Int) := by simp [wrap64]; omega
  have hm1 : ¬ (m : Int) = 5 * (n : Int) := by omega
  clear h
  go_enter Try.func14, Try.ntmps14
  go_wp2
  go_ret
  exact ⟨rfl, rfl⟩
set_option maxRecDepth 100000 in
set_option maxHeartbeats 4000000 in
theorem rput_no (q base n N ca : Nat) (A : Option Addr) (v : Value) (L M : Nat → Cap) (w : World) (h : RStk w q base v n L) (hn : n ≤ 100000) (hN : N = n * 5) (hA : RdC w A N M) (hrt : allR N M = false) :
    Calls Try.prog 14 #[.pointer (some ⟨q, 0, none⟩), .slice A N ca] w fun e w' => e = .returned (.bool false) ∧ Ext w w' := by
  obtain ⟨V, cv, rfl, _, _⟩ := h.slice
  have HS := hid h
  have hq := h.1
  have hc := h.2.1
  have hwn : wrap64 (5 * (n : Int)) = 5 * (n : Int) := by simp [wrap64]; omega
  have HA := hid hA
  have hm1 : (N : Int) = 5 * (n : Int) := by omega
  have HN := hid hN
  have hNb : N ≤ 500000 := by omega
  clear h hA hN
  go_enter Try.func14, Try.ntmps14
  go_upto_region 3 with (fail)
  clear hwn hm1
  go_wp2
  go_loopw [5] (fun i wr => ∃ k : Nat, k ≤ N ∧ i = .int .i64 k ∧ (∀ j, j < k → rightC (M j) = true) ∧ Hid (Ext w wr)) (fun i _ => N - (intOf i).toNat)
  case atStart => exact ⟨0, Nat.zero_le _, rfl, (fun j hj => absurd hj (by omega)), hid (by repeat (first | (with_reducible exact Ext.refl _) | (with_reducible refine Ext.undrew ?_) | (with_reducible refine Ext.grow ?_ _) | (with_reducible refine Ext.drew ?_) | (with_reducible refine Ext.drewN ?_ _) | (with_reducible refine Ext.alloc ?_ _) | (with_reducible assumption) | ((with_reducible refine Ext.setCell ?_ ?_ _); rotate_left; (first | exact Nat.le_refl _ | ((try dsimp only); (try simp only [World.size_alloc, grow_size, World.size_setCell]); omega)))))⟩
  case round =>
    obtain ⟨k, hk, rfl, hall, hx⟩ := hrel
    by_cases hlt : k < N
    · have hk1 : (k : Int) < (N : Int) := by omega
      have hk0 : (0 : Int) ≤ (k : Int) := by omega
      obtain ⟨B, o, rfl, hC⟩ := HA.out (by omega)
      have hCk := hid ((hC k hlt).ext hx.out)
      clear hC
      cases hr : rightC (M k) with
      | false =>
        go_wp2_with (first | (with_reducible refine wpList_load_mid rfl 29 (.tmp 25) rfl B (o + k * 6) rfl (M k).cells _ (Rng.range hCk.out) Try.underlying29 rfl (by kernel_rfl) ?_) | (go_at_call 22; refine (rcapRight (M k).tag (M k).base (M k).top (M k).at_ (M k).perms (M k).type _).mono ?_; rw [show rightC ⟨(M k).tag, (M k).base, (M k).top, (M k).at_, (M k).perms, (M k).type⟩ = rightC (M k) from rfl, hr]; rintro e w1 ⟨rfl, hy⟩))
        go_ret
        exact ⟨rfl, hx.out.trans hy⟩
      | true =>
        go_wp2_with (first | (with_reducible refine wpList_load_mid rfl 29 (.tmp 25) rfl B (o + k * 6) rfl (M k).cells _ (Rng.range hCk.out) Try.underlying29 rfl (by kernel_rfl) ?_) | (go_at_call 22; refine (rcapRight (M k).tag (M k).base (M k).top (M k).at_ (M k).perms (M k).type _).mono ?_; rw [show rightC ⟨(M k).tag, (M k).base, (M k).top, (M k).at_, (M k).perms, (M k).type⟩ = rightC (M k) from rfl, hr]; rintro e w1 ⟨rfl, hy⟩))
        have hall2 : ∀ j, j < k + 1 → rightC (M j) = true := fun j hj => by
          by_cases h : j < k
          · exact hall j h
          · obtain rfl : j = k := by omega
            exact hr
        go_roundw
        case rel => exact ⟨k + 1, by omega, by go_num, hall2, hid (hx.out.trans hy)⟩
        case measure => simp [intOf]; omega
    · obtain rfl : k = N := by omega
      have hk1 : ¬ (k : Int) < (k : Int) := by omega
      exact absurd (allR_iff.2 hall) (by simp [hrt])
set_option maxRecDepth 100000 in
set_option maxHeartbeats 4000000 in
theorem rput_ (q base n N ca : Nat) (A : Option Addr) (v : Value) (L M : Nat → Cap) (w : World) (h : RStk w q base v n L) (hn : n ≤ 100000) (hN : N = n * 5) (hA : RdC w A N M) (hca : N ≤ ca) (hrt : allR N M = true) :
    Calls Try.prog 14 #[.pointer (some ⟨q, 0, none⟩), .slice A N ca] w fun e w' => ∃ v', e = .returned (.bool true) ∧ RStk w' q base v' n M ∧ Only (· = q) w w' ∧ (∀ g, v'.ownBlock = some g → w.heap.size ≤ g) := by
  obtain ⟨V, cv, rfl, _, _⟩ := h.slice
  have HS := hid h
  have hq := h.1
  have hc := h.2.1
  have hwn : wrap64 (5 * (n : Int)) = 5 * (n : Int) := by simp [wrap64]; omega
  have HA := hid hA
  have hm1 : (N : Int) = 5 * (n : Int) := by omega
  have HN := hid hN
  have hNb : N ≤ 500000 := by omega
  clear h hA hN
  go_enter Try.func14, Try.ntmps14
  go_upto_region 3 with (fail)
  clear hwn hm1
  go_wp2
  go_loopw [5] (fun i wr => ∃ k : Nat, k ≤ N ∧ i = .int .i64 k ∧ (∀ j, j < k → rightC (M j) = true) ∧ Hid (Ext w wr)) (fun i _ => N - (intOf i).toNat)
  case atStart => exact ⟨0, Nat.zero_le _, rfl, (fun j hj => absurd hj (by omega)), hid (by repeat (first | (with_reducible exact Ext.refl _) | (with_reducible refine Ext.undrew ?_) | (with_reducible refine Ext.grow ?_ _) | (with_reducible refine Ext.drew ?_) | (with_reducible refine Ext.drewN ?_ _) | (with_reducible refine Ext.alloc ?_ _) | (with_reducible assumption) | ((with_reducible refine Ext.setCell ?_ ?_ _); rotate_left; (first | exact Nat.le_refl _ | ((try dsimp only); (try simp only [World.size_alloc, grow_size, World.size_setCell]); omega)))))⟩
  case round =>
    obtain ⟨k, hk, rfl, hall, hx⟩ := hrel
    by_cases hlt : k < N
    · have hk1 : (k : Int) < (N : Int) := by omega
      have hk0 : (0 : Int) ≤ (k : Int) := by omega
      obtain ⟨B, o, rfl, hC⟩ := HA.out (by omega)
      have hCk := hid ((hC k hlt).ext hx.out)
      clear hC
      cases hr : rightC (M k) with
      | false =>
        exact absurd hr (by simp [allR_iff.1 hrt k hlt])
      | true =>
        go_wp2_with (first | (with_reducible refine wpList_load_mid rfl 29 (.tmp 25) rfl B (o + k * 6) rfl (M k).cells _ (Rng.range hCk.out) Try.underlying29 rfl (by kernel_rfl) ?_) | (go_at_call 22; refine (rcapRight (M k).tag (M k).base (M k).top (M k).at_ (M k).perms (M k).type _).mono ?_; rw [show rightC ⟨(M k).tag, (M k).base, (M k).top, (M k).at_, (M k).perms, (M k).type⟩ = rightC (M k) from rfl, hr]; rintro e w1 ⟨rfl, hy⟩))
        have hall2 : ∀ j, j < k + 1 → rightC (M j) = true := fun j hj => by
          by_cases h : j < k
          · exact hall j h
          · obtain rfl : j = k := by omega
            exact hr
        go_roundw
        case rel => exact ⟨k + 1, by omega, by go_num, hall2, hid (hx.out.trans hy)⟩
        case measure => simp [intOf]; omega
    · obtain rfl : k = N := by omega
      have hk1 : ¬ (k : Int) < (k : Int) := by omega
      go_upto_region 9 with (fail)
      have HX0 := hx
      clear hx hall hlt hk1 hk
      go_wp2
      go_loopw [6, 7] (fun v i wr => ∃ j : Nat, j ≤ n ∧ i = .int .i64 ((j * 5 : Nat) : Int) ∧ Hid (wr.ownsRow w.heap.size 32 30 v j (capsList (j * 5) M)) ∧ Hid (Ext w wr)) (fun _ i _ => k - (intOf i).toNat)
      case atStart => exact ⟨0, Nat.zero_le _, rfl, hid (by simpa [capsList] using owns_nil _ _ 32 30), HX0⟩
      case round =>
        clear HX0
        obtain ⟨j, hj, rfl, hown, hx⟩ := hrel
        have hN := HN.out
        obtain ⟨q5, hq5⟩ : ∃ x, j * 5 = x := ⟨_, rfl⟩
        rw [hq5]
        by_cases hlt : j < n
        · have hk1 : (q5 : Int) < (k : Int) := by omega
          have hk0 : (0 : Int) ≤ (q5 : Int) := by omega
          have hkb : (k : Int) ≤ 500000 := by omega
          have hi1 : (q5 : Int) + 1 < (k : Int) := by omega
          have hi2 : (q5 : Int) + 2 < (k : Int) := by omega
          have hi3 : (q5 : Int) + 3 < (k : Int) := by omega
          have hi4 : (q5 : Int) + 4 < (k : Int) := by omega
          obtain ⟨B, o, rfl, hC⟩ := HA.out (by omega)
          have hBw : B < w.heap.size := (hC 0 (by omega)).lt
          obtain ⟨qq, hqq, hqw⟩ : ∃ qq, (∀ g, u6.ownBlock = some g → g = qq) ∧ w.heap.size ≤ qq := by
            rcases hown.out.2 with ⟨h, _⟩ | ⟨g, c, _, h, hb, _⟩
            · exact ⟨w.heap.size, (fun g hg => by rw [h] at hg; cases hg), Nat.le_refl _⟩
            · exact ⟨g, (fun g' hg => by rw [h] at hg; simpa [Value.ownBlock, eq_comm] using hg), hb⟩
          have hBq : ¬ B = qq := by omega
          have hjb : j * 5 + 5 ≤ 500000 := by omega
          clear hN
          obtain ⟨i0, z0, hi0, hz0, hz1, hz2, hz3⟩ := frame_info2
          go_upto_region 12 with (fail)
          refine wp_region_turn (q := qq) (.rd 0 (.rd 1 (.rd 2 (.rd 3 (.rd 4 (.rd 5 (.rd 6 (.rd 7 (.rd 8 (.rd 9 (.rd 10 (.rd 11 (.rd 12 (.rd 13 (.rd 14 (.rd 15 (.rd 16 (.rd 17 (.rd 18 (.rd 19 (.rd 20 (.rd 21 (.rd 22 (.rd 23 (.rd 24 (.rd 25 (.rd 26 (.ac 27 (.ac 28 (.rd 29 .done)))))))))))))))))))))))))))))) (by kernel_rfl) (by kernel_rfl) (fun _ _ d _ _ h => by cases d <;> exact h) (by simp only [Ord.map, nthOp, List.append]; rfl) ?_
          intro d1
          have hown2 := hid (ownsRow_ext hown.out (Ext.grow (Ext.refl wr) d1))
          have hx2 := hid (hx.out.trans (Ext.grow (Ext.refl wr) d1))
          have hC0 := hid ((hC q5 (by omega)).ext hx2.out)
          have hC1 := hid ((hC (q5 + 1) (by omega)).ext hx2.out)
          have hC2 := hid ((hC (q5 + 2) (by omega)).ext hx2.out)
          have hC3 := hid ((hC (q5 + 3) (by omega)).ext hx2.out)
          have hC4 := hid ((hC (q5 + 4) (by omega)).ext hx2.out)
          clear hC hown hx
          generalize Go.Proofs.Ytfpfmjcajdknoaa.grow wr d1 = W4 at hown2 hx2 hC0 hC1 hC2 hC3 hC4 ⊢
          repeat' (first | (refine turn_read (by rfl) (fun K hK => ?_); refine quiet_loadC 29 (.tmp 38) rfl B (o + q5 * 6) rfl (M q5).cells _ (fun w' hw' => ((hC0.out.only hw'.only hBq).range)) Try.underlying29 rfl (by kernel_rfl) ?_; refine hK _ ?_; clear hK K; simp only [Act.put, List.setIfInBounds_toArray, List.set_cons_zero, List.set_cons_succ]) | (refine turn_read (by rfl) (fun K hK => ?_); refine quiet_loadC 29 (.tmp 43) rfl B (o + (q5 + 1) * 6) rfl (M (q5 + 1)).cells _ (fun w' hw' => ((hC1.out.only hw'.only hBq).range)) Try.underlying29 rfl (by kernel_rfl) ?_; refine hK _ ?_; clear hK K; simp only [Act.put, List.setIfInBounds_toArray, List.set_cons_zero, List.set_cons_succ]) | (refine turn_read (by rfl) (fun K hK => ?_); refine quiet_loadC 29 (.tmp 48) rfl B (o + (q5 + 2) * 6) rfl (M (q5 + 2)).cells _ (fun w' hw' => ((hC2.out.only hw'.only hBq).range)) Try.underlying29 rfl (by kernel_rfl) ?_; refine hK _ ?_; clear hK K; simp only [Act.put, List.setIfInBounds_toArray, List.set_cons_zero, List.set_cons_succ]) | (refine turn_read (by rfl) (fun K hK => ?_); refine quiet_loadC 29 (.tmp 53) rfl B (o + (q5 + 3) * 6) rfl (M (q5 + 3)).cells _ (fun w' hw' => ((hC3.out.only hw'.only hBq).range)) Try.underlying29 rfl (by kernel_rfl) ?_; refine hK _ ?_; clear hK K; simp only [Act.put, List.setIfInBounds_toArray, List.set_cons_zero, List.set_cons_succ]) | (refine turn_read (by rfl) (fun K hK => ?_); refine quiet_loadC 29 (.tmp 58) rfl B (o + (q5 + 4) * 6) rfl (M (q5 + 4)).cells _ (fun w' hw' => ((hC4.out.only hw'.only hBq).range)) Try.underlying29 rfl (by kernel_rfl) ?_; refine hK _ ?_; clear hK K; simp only [Act.put, List.setIfInBounds_toArray, List.set_cons_zero, List.set_cons_succ]) | (refine turn_read (by rfl) (fun K hK => ?_); refine quiet_runD 60 rfl (.agg (capsList 4 fun i => M (q5 + (i + 1))).toArray) (fun w => by kernel_rfl) ?_; refine hK _ ?_; clear hK K; simp only [Act.put, List.setIfInBounds_toArray, List.set_cons_zero, List.set_cons_succ]) | (refine turn_read (by rfl) (fun K hK => ?_); refine quiet_runD 61 rfl (.agg (capsList 5 fun i => M (q5 + i)).toArray) (fun w => by kernel_rfl) ?_; refine hK _ ?_; clear hK K; simp only [Act.put, List.setIfInBounds_toArray, List.set_cons_zero, List.set_cons_succ]) | (refine turn_read (by rfl) (fun K hK => ?_); go_big_quiet_op; refine hK _ ?_; clear hK K))
          refine turn_act (by rfl) (fun K hK => ?_)
          refine wp_build1 44 32 (.tmp 61) rfl (capsList 5 fun i => M (q5 + i)).toArray 30 rfl (by rw [capsArr_size]) (by omega) (by omega) Try.underlying44 (by kernel_rfl) (by kernel_rfl) ?_
          refine hK _ _ ⟨_, Only.refl _ _, Only.ofExt (Ext.alloc (Ext.refl _) _), ?_⟩
          refine turn_gen (fun W => Hid (Ext W4 W) ∧ Hid (Row W W4.heap.size 0 (capsList 5 fun i => M (q5 + i)))) ⟨hid (Ext.alloc (Ext.refl _) _), hid (Row.new W4 _ _)⟩ ?_
          clear hK K
          rintro W5 ⟨hE5, hR5⟩
          have hown3 := hid (ownsRow_ext hown2.out hE5.out)
          have hb5 : w.heap.size ≤ W5.heap.size := by have := hE5.out.size; have := hx2.out.size; omega
          refine turn_act (by rfl) (fun K hK => ?_)
          refine wp_append_lies _ (.tmp 35) (.tmp 62) 44 rfl w.heap.size 32 i0 z0 30 240 Try.underlying44 hi0 hz0 hz2 hz3 hz1 (by omega) u6 j (capsList (j * 5) M) rfl hown3.out ⟨W4.heap.size, 0, none⟩ 1 1 (capsList 5 fun i => M (q5 + i)) rfl (by rw [capsList_length]) (fun j u hj => by rw [Addr.add_lit]; exact hR5.out.range j u hj) (capsList_one 5 _) (by omega) (by unfold maxLen; omega) (by omega) hb5 _ rfl ?_
          intro g cap w6 hown6 hgrow hat hlt6
          have hS6 : Only (fun i => i = qq) W4 w6 := Only.trans' (Only.ofExt hE5.out) (grownOnly hgrow hqq)
          have hown7 : Hid (w6.ownsRow w.heap.size 32 30 (.slice (some ⟨g, 0, none⟩) (j + 1) cap) (j + 1) (capsList ((j + 1) * 5) M)) := hid (by
            have h := hown6
            rw [← hq5] at h
            rwa [show capsList (j * 5) M ++ (capsList 5 fun i => M (j * 5 + i)) = capsList ((j + 1) * 5) M from capsList_row M j] at h)
          have hx7 := hid (Ext.only hx2.out hS6 (by rintro i rfl; exact hqw))
          refine hK _ _ ⟨_, Only.refl _ _, hS6, ?_⟩
          clear hK K hgrow hown6 hown3 hown2 hx2 hE5 hR5 hS6 hC0 hC1 hC2 hC3 hC4 hat
          simp only [Act.put, List.setIfInBounds_toArray, List.set_cons_zero, List.set_cons_succ]
          (repeat' (refine turn_read (by rfl) (fun K hK => ?_); go_big_quiet_op; refine hK _ ?_; clear hK K))
          refine turn_nil ?_
          have hq6 : (((j + 1) * 5 : Nat) : Int) = (q5 : Int) + 5 := by omega
          go_wp2
          go_roundw
          case rel => exact ⟨j + 1, by omega, by rw [hq6], hown7, hx7⟩
          case measure => simp [intOf]; omega
        · obtain rfl : j = n := by omega
          have hk1 : ¬ (q5 : Int) < (k : Int) := by omega
          have hqr : q < wr.heap.size := Nat.lt_of_lt_of_le hq hx.out.size
          have hcr := (hx.out.cells q 0 hq).trans hc
          have hfr := (hx.out.frozens q 0 hq).trans HS.out.2.2.1
          have hqb : base ≤ q := HS.out.2.2.2.2.1
          obtain ⟨Ao, co, rfl⟩ : ∃ A c, u6 = .slice A j c := by
            rcases hown.out.2 with ⟨h, h2⟩ | ⟨g, c, _, h, _⟩
            · exact ⟨none, 0, by rw [h, h2]⟩
            · exact ⟨some ⟨g, 0, none⟩, c, h⟩
          have hne : ∀ g, (Value.slice Ao j co).ownBlock = some g → ¬ g = q := fun g h e => by have := (hown.out.lt g h).1; omega
          clear HS
          go_wp2
          go_ret
          refine ⟨rfl, .slice Ao j co, ⟨by simpa [go_sem] using hqr, by simp [go_sem, hcr], by simp [go_sem, hfr], World.ownsRow.mono (ownsRow_only (S := fun i => i = q) hown.out (Only.setCell (S := fun i => i = q) (Only.refl _ _) (.inl rfl) _) hne) (by omega), hqb, hne⟩, Only.setCell (S := fun i => i = q) (Only.ofExt hx.out) (.inl rfl) _, fun g h => (hown.out.lt g h).1⟩

end Go.Proofs.Ytfpfmjcajdknoaa
