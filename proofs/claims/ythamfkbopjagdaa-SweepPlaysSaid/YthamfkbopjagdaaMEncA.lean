/- MEncA: EncA EncB EncC EncD EncE EncF -/
import Derived.Test.YthamfkbopjagdaaMBase
import Derived.Laws.BitsLemmas
import Derived.Deep.DeepCutAuto
namespace Go.Proofs.Ythamfkbopjagdaa
set_option maxRecDepth 100000
set_option linter.unusedSimpArgs false
set_option linter.unusedVariables false
open Go.RowKit


def four (n : Int) : List Int := [n / 16777216 % 256, n / 65536 % 256, n / 256 % 256, n % 256]
theorem four_length (n : Int) : (four n).length = 4 := rfl
def rowB (l : List Int) : List Int := l.flatMap four
theorem rowB_length : ∀ l : List Int, (rowB l).length = 4 * l.length
  | [] => rfl
  | z :: l => by
    have := rowB_length l
    simp only [rowB, List.flatMap_cons, List.length_append, four_length, List.length_cons] at this ⊢
    omega
theorem rowB_snoc (l : List Int) {k : Nat} (hk : k < l.length) : rowB (l.take (k + 1)) = rowB (l.take k) ++ four l[k] := by
  unfold rowB
  rw [List.take_succ_eq_append_getElem hk, List.flatMap_append, List.flatMap_singleton]
def bytesC (c : Cap) : List Int := rowB [c.at_, c.base, c.top] ++ [0, c.perms % 256, 0, c.type % 256]
theorem bytesC_length (c : Cap) : (bytesC c).length = 16 := rfl
theorem OwnB.more {w : World} {base : Nat} {v : Value} {l m : List Int} (h : w.ownsRow base 5 1 v (l.length + m.length) (bvals l ++ bvals m)) : OwnB w base v (l ++ m) := by
  unfold OwnB
  rw [List.length_append, bvals_append]
  exact h
theorem Ext.owned {a w w' : World} {e : TypeId} {size n : Nat} {v : Value} {xs : List Value} (h : Ext a w) (hown : w.ownsRow a.heap.size e size v n xs) (hg : w.grownBy w' v.ownBlock) : Ext a w' :=
  Below.grown h hg h.size fun k hk => (hown.lt k hk).1
theorem OwnB.keptExt {w w' : World} {base : Nat} {v : Value} {l : List Int} (h : OwnB w base v l) (x : Ext w w') : OwnB w' base v l := by
  refine ⟨h.1, ?_⟩
  rcases h.2 with h0 | ⟨g, cap, cur, hv, hb, hg, r⟩
  · exact .inl h0
  · exact .inr ⟨g, cap, cur, hv, hb, by rw [x.block g (Array.getElem?_eq_some_iff.1 hg).1]; exact hg, r⟩
set_option maxHeartbeats 2000000 in
theorem row_ (A : Option Addr) (ca : Nat) (zs : List Int) (w : World) (hA : SlAt w A (zs.map (Value.int .i64))) (hn : zs.length ≤ 1000) :
    Calls Try.prog 66 #[.slice A zs.length ca] w fun e w' => ∃ v, e = .returned v ∧ OwnB w' w.heap.size v (rowB zs) ∧ Ext w w' := by
  obtain ⟨i0, hi, hz0, hz1, hz2⟩ := info_parts info_u8
  have HI := hid hi
  have HA := hid hA
  clear hA
  go_enter Try.func66, Try.ntmps66
  go_wp2
  go_loopw [3, 8] (fun v i wr => ∃ k : Nat, k ≤ zs.length ∧ i = .int .i64 k ∧ Hid (OwnB wr w.heap.size v (rowB (zs.take k))) ∧ Ext w wr) (fun _ i _ => zs.length - (intOf i).toNat)
  case atStart => exact ⟨0, Nat.zero_le _, rfl, hid (OwnB.nil _ _), (by repeat (first | (with_reducible exact Ext.refl _) | (with_reducible refine Ext.undrew ?_) | (with_reducible refine Ext.grow ?_ _) | (with_reducible refine Ext.drew ?_) | (with_reducible refine Ext.drewN ?_ _) | (with_reducible refine Ext.alloc ?_ _) | (with_reducible assumption) | ((with_reducible refine Ext.setCell ?_ ?_ _); rotate_left; (first | exact Nat.le_refl _ | ((try dsimp only); (try simp only [World.size_alloc, grow_size, World.size_setCell]); omega)))))⟩
  case round =>
    obtain ⟨k, hk, rfl, hown, hx⟩ := hrel
    by_cases hlt : k < zs.length
    · obtain ⟨b, off, rfl, hb, hc⟩ := HA.out (by simpa using (by omega : 0 < zs.length))
      have hck : wr.cell? ⟨b, off + k, none⟩ = some (.int .i64 zs[k]) := by
        rw [hx.cells b _ hb, hc k (by simpa using hlt)]
        simp
      have hlen := rowB_length (zs.take k)
      rw [List.length_take, Nat.min_eq_left hk] at hlen
      have HL := hid hlen
      clear hlen hc
      have hk0 : (0 : Int) ≤ (k : Int) := by omega
      have hk1 : (k : Int) < (zs.length : Int) := by omega
      go_wp2_with (at_builtin; refine wpList_append_own _ rfl _ _ 39 rfl w.heap.size 5 i0 _ 1 1 Try.underlying39 hi hz0 hz1 hz2 rfl (by decide) _ _ _ rfl (World.ownsRow.alloc hown.out _) ⟨wr.heap.size, 0, none⟩ 4 4 (bvals (four zs[k])) rfl rfl ?c1 (bvals_one _) ?c3 ?c4 ?c5 ?_)
      case c1 => exact fun j u hj => World.news_of_block (heap_alloc_new wr _) j u (by simpa [bvals, four] using hj)
      case c3 => have := HL.out; unfold maxLen; omega
      case c4 => have := HL.out; omega
      case c5 => have := hx.size; simp [go_sem]; omega
      intro v' w1 hown1 hgrow _
      have hown2 := hid (OwnB.more hown1)
      rw [← rowB_snoc zs hlt] at hown2
      have hx1 := hid (Ext.owned (Ext.alloc hx _) (World.ownsRow.alloc hown.out _) hgrow)
      clear hgrow hown hown1
      go_wp2
      go_roundw
      case rel => exact ⟨k + 1, by omega, by go_num, hown2, hx1.out⟩
      case measure => simp [intOf]; omega
    · have hown2 := hown.out
      rw [List.take_of_length_le (by omega)] at hown2
      have hown2 := hid hown2
      clear hown
      go_wp2
      go_ret
      exact ⟨_, rfl, hown2.out, (by repeat (first | (with_reducible exact Ext.refl _) | (with_reducible refine Ext.undrew ?_) | (with_reducible refine Ext.grow ?_ _) | (with_reducible refine Ext.drew ?_) | (with_reducible refine Ext.drewN ?_ _) | (with_reducible refine Ext.alloc ?_ _) | (with_reducible assumption) | ((with_reducible refine Ext.setCell ?_ ?_ _); rotate_left; (first | exact Nat.le_refl _ | ((try dsimp only); (try simp only [World.size_alloc, grow_size, World.size_setCell]); omega)))))⟩

set_option maxHeartbeats 2000000 in
theorem rfour (v : Value) (base : Nat) (l : List Int) (n : Int) (w : World) (hv : OwnB w base v l) (hn : l.length ≤ 1000) (hb : base ≤ w.heap.size) :
    Calls Try.prog 69 #[v, .int .i64 n] w fun e w' => ∃ v', e = .returned v' ∧ OwnB w' base v' (l ++ four n) ∧ Below base w w' := by
  obtain ⟨i0, hi, hz0, hz1, hz2⟩ := info_parts info_u8
  have HI := hid hi
  have hv := hid hv
  go_enter Try.func69, Try.ntmps69
  go_wp2_with (at_builtin; refine wpList_append_own _ rfl _ _ 39 rfl base 5 i0 _ 1 1 Try.underlying39 hi hz0 hz1 hz2 rfl (by decide) _ _ _ rfl (World.ownsRow.alloc hv.out _) ⟨w.heap.size, 0, none⟩ 4 4 (bvals (four n)) rfl rfl ?c1 (bvals_one _) ?c3 ?c4 ?c5 ?_)
  case c1 => exact fun j u hj => World.news_of_block (heap_alloc_new w _) j u (by simpa [bvals, four] using hj)
  case c3 => unfold maxLen; omega
  case c4 => omega
  case c5 => simp [go_sem]; omega
  intro v' w1 hown1 hgrow _
  have hown2 := hid (OwnB.more hown1)
  have hx1 : Hid (Below base w w1) := hid (Below.grown ((Below.refl base w).alloc hb _) hgrow (by simp; omega) (fun k hk => (World.ownsRow.lt (w := w) hv.out k hk).1))
  clear hgrow hown1
  go_wp2
  go_ret
  exact ⟨_, rfl, hown2.out, hx1.out⟩

end Go.Proofs.Ythamfkbopjagdaa

namespace Go.Proofs.Ythamfkbopjagdaa
set_option maxRecDepth 100000
set_option linter.unusedSimpArgs false
set_option linter.unusedVariables false
open Go.RowKit

set_option maxHeartbeats 400000 in
theorem put_no (t : Bool) (b tp a p ty : Int) (w : World) (hr : rightC ⟨t, b, tp, a, p, ty⟩ = false) :
    Calls Try.prog 51 #[.agg #[.bool t, .int .i64 b, .int .i64 tp, .int .i64 a, .int .i64 p, .int .i64 ty]] w fun e w' => e = .returned (.slice none 0 0) ∧ Ext w w' := by
  go_enter Try.func51, Try.ntmps51
  go_wp2_with (go_at_call 50; refine (capRight _ _ _ _ _ _ _).mono ?_; rintro e w1 ⟨rfl, hy⟩; obtain ⟨d, rfl⟩ := hy.grown; clear hy)
  all_goals go_ret
  all_goals exact ⟨rfl, (by repeat (first | (with_reducible exact Ext.refl _) | (with_reducible refine Ext.undrew ?_) | (with_reducible refine Ext.grow ?_ _) | (with_reducible refine Ext.drew ?_) | (with_reducible refine Ext.drewN ?_ _) | (with_reducible refine Ext.alloc ?_ _) | (with_reducible assumption) | ((with_reducible refine Ext.setCell ?_ ?_ _); rotate_left; (first | exact Nat.le_refl _ | ((try dsimp only); (try simp only [World.size_alloc, grow_size, World.size_setCell]); omega)))))⟩

set_option maxRecDepth 100000 in
set_option maxHeartbeats 4000000 in
theorem put_yes (t : Bool) (b tp a p ty : Int) (w : World) (hr : rightC ⟨t, b, tp, a, p, ty⟩ = true) :
    Calls Try.prog 51 #[.agg #[.bool t, .int .i64 b, .int .i64 tp, .int .i64 a, .int .i64 p, .int .i64 ty]] w fun e w' => ∃ q ca, e = .returned (.slice (some ⟨q, 0, none⟩) 16 ca) ∧ 16 ≤ ca ∧ ca ≤ maxLen ∧ w.heap.size ≤ q ∧ RdB w' (some ⟨q, 0, none⟩) (bytesC ⟨t, b, tp, a, p, ty⟩) ∧ Ext w w' := by
  obtain ⟨i0, hi, hz0, hz1, hz2⟩ := info_parts info_u8
  have HI := hid hi
  go_enter Try.func51, Try.ntmps51
  go_wp2_with (go_at_call 50; refine (capRight _ _ _ _ _ _ _).mono ?_; rintro e w1 ⟨rfl, hy⟩; obtain ⟨d, rfl⟩ := hy.grown; clear hy)
  refine wp_region_chain (.rd 0 (.rd 1 (.rd 2 (.rd 3 (.rd 4 (.rd 5 (.rd 8 (.rd 9 (.rd 10 (.rd 11 (.rd 12 (.rd 13 (.br 6 (.br 7 (.ac 14 (.ac 15 (.rd 16 .done))) 14 (.ac 7 (.ac 15 (.rd 16 .done)))) 14 (.ac 6 (.ac 7 (.ac 15 (.rd 16 .done))))))))))))))))) (by kernel_rfl) (by kernel_rfl) (fun _ _ d _ _ h => by cases d <;> exact h) (by simp only [Ord.map, nthOp, List.append]; rfl) ?_
  repeat' (first | (refine chain_read (by rfl) (fun K hK => ?_); go_big_quiet_op; refine hK _ ?_; clear hK K) | (refine chain_act (by rfl) (fun K hK => ?_); go_wp2_with (go_at_call 66; refine Calls.mono (row_ _ _ [a, b, tp] _ (by intro _; refine ⟨_, _, rfl, by simp [go_sem], fun j hj => ?_⟩; have hj3 : j = 0 ∨ j = 1 ∨ j = 2 := (by have h := hj; simp only [List.length_map, List.length_cons, List.length_nil] at h; omega); rcases hj3 with rfl | rfl | rfl <;> simp [go_sem]) (by simp)) ?_; rintro e w' ⟨v, rfl, hv, hy⟩; obtain ⟨d2, rfl⟩ := hy.grown; clear hy; have hv := hid hv); refine ⟨(by repeat (first | (with_reducible exact Ext.refl _) | (with_reducible refine Ext.undrew ?_) | (with_reducible refine Ext.grow ?_ _) | (with_reducible refine Ext.drew ?_) | (with_reducible refine Ext.drewN ?_ _) | (with_reducible refine Ext.alloc ?_ _) | (with_reducible assumption) | ((with_reducible refine Ext.setCell ?_ ?_ _); rotate_left; (first | exact Nat.le_refl _ | ((try dsimp only); (try simp only [World.size_alloc, grow_size, World.size_setCell]); omega))))), ?_⟩) | refine chain_br ?_ ?_)
  all_goals (refine chain_act (by rfl) (fun K hK => ?_); refine wp_append_own _ (.tmp 13) (.tmp 20) 39 rfl (Go.Proofs.Ythamfkbopjagdaa.grow (w.alloc (.cells #[.bool t, .int .i64 b, .int .i64 tp, .int .i64 a, .int .i64 p, .int .i64 ty] 24)) d).heap.size 5 i0 _ 1 1 Try.underlying39 hi hz0 hz1 hz2 rfl (by decide) _ _ _ rfl (OwnB.rebase (OwnB.keptExt hv.out (by repeat (first | (with_reducible exact Ext.refl _) | (with_reducible refine Ext.undrew ?_) | (with_reducible refine Ext.grow ?_ _) | (with_reducible refine Ext.drew ?_) | (with_reducible refine Ext.drewN ?_ _) | (with_reducible refine Ext.alloc ?_ _) | (with_reducible assumption) | ((with_reducible refine Ext.setCell ?_ ?_ _); rotate_left; (first | exact Nat.le_refl _ | ((try dsimp only); (try simp only [World.size_alloc, grow_size, World.size_setCell]); omega)))))) (by simp only [World.size_alloc, grow_size, World.size_drew]; omega)) _ 4 4 (bvals [0, p % 256, 0, ty % 256]) rfl rfl (by intro j u hj; rw [Addr.add_lit]; have hj4 : j = 0 ∨ j = 1 ∨ j = 2 ∨ j = 3 := (by have h := (List.getElem?_eq_some_iff.1 hj).1; simp only [bvals, List.length_map, List.length_cons, List.length_nil] at h; omega); rcases hj4 with rfl | rfl | rfl | rfl <;> (simp [bvals] at hj; subst hj; simp [go_sem])) (bvals_one _) (by simp [rowB, four, maxLen]) (by simp [rowB, four]) (by simp only [World.size_alloc, grow_size, World.size_drew]; omega) ?_; intro v' w1 hown1 hgrow _; refine hK _ _ ⟨Ext.owned (by repeat (first | (with_reducible exact Ext.refl _) | (with_reducible refine Ext.undrew ?_) | (with_reducible refine Ext.grow ?_ _) | (with_reducible refine Ext.drew ?_) | (with_reducible refine Ext.drewN ?_ _) | (with_reducible refine Ext.alloc ?_ _) | (with_reducible assumption) | ((with_reducible refine Ext.setCell ?_ ?_ _); rotate_left; (first | exact Nat.le_refl _ | ((try dsimp only); (try simp only [World.size_alloc, grow_size, World.size_setCell]); omega))))) (OwnB.rebase (OwnB.keptExt hv.out (by repeat (first | (with_reducible exact Ext.refl _) | (with_reducible refine Ext.undrew ?_) | (with_reducible refine Ext.grow ?_ _) | (with_reducible refine Ext.drew ?_) | (with_reducible refine Ext.drewN ?_ _) | (with_reducible refine Ext.alloc ?_ _) | (with_reducible assumption) | ((with_reducible refine Ext.setCell ?_ ?_ _); rotate_left; (first | exact Nat.le_refl _ | ((try dsimp only); (try simp only [World.size_alloc, grow_size, World.size_setCell]); omega)))))) (by simp only [World.size_alloc, grow_size, World.size_drew]; omega)) hgrow, ?_⟩; have hx1 : Ext (Go.Proofs.Ythamfkbopjagdaa.grow (w.alloc (.cells #[.bool t, .int .i64 b, .int .i64 tp, .int .i64 a, .int .i64 p, .int .i64 ty] 24)) d) w1 := Ext.owned (by repeat (first | (with_reducible exact Ext.refl _) | (with_reducible refine Ext.undrew ?_) | (with_reducible refine Ext.grow ?_ _) | (with_reducible refine Ext.drew ?_) | (with_reducible refine Ext.drewN ?_ _) | (with_reducible refine Ext.alloc ?_ _) | (with_reducible assumption) | ((with_reducible refine Ext.setCell ?_ ?_ _); rotate_left; (first | exact Nat.le_refl _ | ((try dsimp only); (try simp only [World.size_alloc, grow_size, World.size_setCell]); omega))))) (OwnB.rebase (OwnB.keptExt hv.out (by repeat (first | (with_reducible exact Ext.refl _) | (with_reducible refine Ext.undrew ?_) | (with_reducible refine Ext.grow ?_ _) | (with_reducible refine Ext.drew ?_) | (with_reducible refine Ext.drewN ?_ _) | (with_reducible refine Ext.alloc ?_ _) | (with_reducible assumption) | ((with_reducible refine Ext.setCell ?_ ?_ _); rotate_left; (first | exact Nat.le_refl _ | ((try dsimp only); (try simp only [World.size_alloc, grow_size, World.size_setCell]); omega)))))) (by simp only [World.size_alloc, grow_size, World.size_drew]; omega)) hgrow; have hown2 := hid (OwnB.more hown1); clear hK K hgrow hown1)
  all_goals
    simp only [Act.put, List.setIfInBounds_toArray, List.set_cons_zero, List.set_cons_succ]
    refine chain_read (by rfl) (fun K hK => ?_); go_big_quiet_op; refine hK _ ?_; clear hK K
    refine chain_nil ?_
    obtain ⟨q, ca, rfl, hl, hm, hq, hrd⟩ := OwnB.rd2 hown2.out (by simp [rowB, four])
    have hrd := hid hrd
    have hq2 : w.heap.size ≤ q := by simp only [World.size_alloc, grow_size, World.size_drew] at hq; omega
    have hl2 : 16 ≤ ca := hl
    have HQ := hid (And.intro hl2 (And.intro hm hq2))
    clear hown2 hv hl hm hq hq2 hl2
    go_wp2
    go_ret
    exact ⟨q, ca, rfl, HQ.out.1, HQ.out.2.1, HQ.out.2.2, hrd.out, Ext.trans (by repeat (first | (with_reducible exact Ext.refl _) | (with_reducible refine Ext.undrew ?_) | (with_reducible refine Ext.grow ?_ _) | (with_reducible refine Ext.drew ?_) | (with_reducible refine Ext.drewN ?_ _) | (with_reducible refine Ext.alloc ?_ _) | (with_reducible assumption) | ((with_reducible refine Ext.setCell ?_ ?_ _); rotate_left; (first | exact Nat.le_refl _ | ((try dsimp only); (try simp only [World.size_alloc, grow_size, World.size_setCell]); omega))))) hx1⟩

end Go.Proofs.Ythamfkbopjagdaa

namespace Go.Proofs.Ythamfkbopjagdaa
set_option maxRecDepth 100000
set_option linter.unusedSimpArgs false
set_option linter.unusedVariables false
open Go.RowKit

set_option maxHeartbeats 400000 in
theorem rput_no (t : Bool) (b tp a p ty : Int) (w : World) (hr : rightC ⟨t, b, tp, a, p, ty⟩ = false) :
    Calls Try.prog 54 #[.agg #[.bool t, .int .i64 b, .int .i64 tp, .int .i64 a, .int .i64 p, .int .i64 ty]] w fun e w' => e = .returned (.slice none 0 0) ∧ Ext w w' := by
  go_enter Try.func54, Try.ntmps54
  go_wp2_with (go_at_call 53; refine (rcapRight _ _ _ _ _ _ _).mono ?_; rintro e w1 ⟨rfl, hy⟩; obtain ⟨d, rfl⟩ := hy.grown; clear hy)
  all_goals go_ret
  all_goals exact ⟨rfl, (by repeat (first | (with_reducible exact Ext.refl _) | (with_reducible refine Ext.undrew ?_) | (with_reducible refine Ext.grow ?_ _) | (with_reducible refine Ext.drew ?_) | (with_reducible refine Ext.drewN ?_ _) | (with_reducible refine Ext.alloc ?_ _) | (with_reducible assumption) | ((with_reducible refine Ext.setCell ?_ ?_ _); rotate_left; (first | exact Nat.le_refl _ | ((try dsimp only); (try simp only [World.size_alloc, grow_size, World.size_setCell]); omega)))))⟩

set_option maxRecDepth 100000 in
set_option maxHeartbeats 4000000 in
theorem rput_yes (t : Bool) (b tp a p ty : Int) (w : World) (hr : rightC ⟨t, b, tp, a, p, ty⟩ = true) :
    Calls Try.prog 54 #[.agg #[.bool t, .int .i64 b, .int .i64 tp, .int .i64 a, .int .i64 p, .int .i64 ty]] w fun e w' => ∃ q ca, e = .returned (.slice (some ⟨q, 0, none⟩) 16 ca) ∧ 16 ≤ ca ∧ ca ≤ maxLen ∧ w.heap.size ≤ q ∧ RdB w' (some ⟨q, 0, none⟩) (bytesC ⟨t, b, tp, a, p, ty⟩) ∧ Ext w w' := by
  obtain ⟨i0, hi, hz0, hz1, hz2⟩ := info_parts info_u8
  have HI := hid hi
  go_enter Try.func54, Try.ntmps54
  go_wp2_with (go_at_call 53; refine (rcapRight _ _ _ _ _ _ _).mono ?_; rintro e w1 ⟨rfl, hy⟩; obtain ⟨d, rfl⟩ := hy.grown; clear hy)
  have f1 : Hid (Ext w (Go.Proofs.Ythamfkbopjagdaa.grow (w.alloc (.cells #[.bool t, .int .i64 b, .int .i64 tp, .int .i64 a, .int .i64 p, .int .i64 ty] 24)) d)) := hid (by repeat (first | (with_reducible exact Ext.refl _) | (with_reducible refine Ext.undrew ?_) | (with_reducible refine Ext.grow ?_ _) | (with_reducible refine Ext.drew ?_) | (with_reducible refine Ext.drewN ?_ _) | (with_reducible refine Ext.alloc ?_ _) | (with_reducible assumption) | ((with_reducible refine Ext.setCell ?_ ?_ _); rotate_left; (first | exact Nat.le_refl _ | ((try dsimp only); (try simp only [World.size_alloc, grow_size, World.size_setCell]); omega)))))
  have f3 : (Go.Proofs.Ythamfkbopjagdaa.grow (w.alloc (.cells #[.bool t, .int .i64 b, .int .i64 tp, .int .i64 a, .int .i64 p, .int .i64 ty] 24)) d).cell? ⟨w.heap.size, 0, none⟩ = some (.bool t) ∧ (Go.Proofs.Ythamfkbopjagdaa.grow (w.alloc (.cells #[.bool t, .int .i64 b, .int .i64 tp, .int .i64 a, .int .i64 p, .int .i64 ty] 24)) d).cell? ⟨w.heap.size, 1, none⟩ = some (.int .i64 b) ∧ (Go.Proofs.Ythamfkbopjagdaa.grow (w.alloc (.cells #[.bool t, .int .i64 b, .int .i64 tp, .int .i64 a, .int .i64 p, .int .i64 ty] 24)) d).cell? ⟨w.heap.size, 2, none⟩ = some (.int .i64 tp) ∧ (Go.Proofs.Ythamfkbopjagdaa.grow (w.alloc (.cells #[.bool t, .int .i64 b, .int .i64 tp, .int .i64 a, .int .i64 p, .int .i64 ty] 24)) d).cell? ⟨w.heap.size, 3, none⟩ = some (.int .i64 a) ∧ (Go.Proofs.Ythamfkbopjagdaa.grow (w.alloc (.cells #[.bool t, .int .i64 b, .int .i64 tp, .int .i64 a, .int .i64 p, .int .i64 ty] 24)) d).cell? ⟨w.heap.size, 4, none⟩ = some (.int .i64 p) ∧ (Go.Proofs.Ythamfkbopjagdaa.grow (w.alloc (.cells #[.bool t, .int .i64 b, .int .i64 tp, .int .i64 a, .int .i64 p, .int .i64 ty] 24)) d).cell? ⟨w.heap.size, 5, none⟩ = some (.int .i64 ty) := by simp [go_sem]
  have f4 : w.heap.size < (Go.Proofs.Ythamfkbopjagdaa.grow (w.alloc (.cells #[.bool t, .int .i64 b, .int .i64 tp, .int .i64 a, .int .i64 p, .int .i64 ty] 24)) d).heap.size := by simp only [grow_size, World.size_alloc]; omega
  generalize (Go.Proofs.Ythamfkbopjagdaa.grow (w.alloc (.cells #[.bool t, .int .i64 b, .int .i64 tp, .int .i64 a, .int .i64 p, .int .i64 ty] 24)) d) = W at f1 f3 f4 ⊢
  obtain ⟨c0, c1, c2, c3, c4, c5⟩ := f3
  refine wp_region_step (.rd 0 (.rd 1 (.rd 3 (.rd 4 (.rd 6 (.rd 7 (.ac 2 (.ac 5 (.ac 8 (.rd 9 .done)))))))))) (by kernel_rfl) (by kernel_rfl) (fun _ _ d _ _ h => by cases d <;> exact h) (by simp only [Ord.map, nthOp, List.append]; rfl) ?_
  intro d0
  repeat (refine step_read (by rfl) (fun K hK => ?_); go_big_quiet_op; refine hK _ ?_; clear hK K)
  refine step_act (by rfl) (fun K hK => ?_)
  go_wp2_with (go_at_call 69; refine Calls.mono (rfour (.slice none 0 0) (Go.Proofs.Ythamfkbopjagdaa.grow W d0).heap.size [] a _ (OwnB.nil _ _) (by simp [four]) (Nat.le_refl _)) ?_; rintro e w1 ⟨v1, rfl, hv1, hx1⟩)
  refine ⟨_, Ext.refl _, hx1, ?_⟩
  have hv1 := hid hv1
  have hx1 := hid hx1
  refine step_act (by rfl) (fun K hK => ?_)
  go_wp2_with (go_at_call 69; refine Calls.mono (rfour v1 (Go.Proofs.Ythamfkbopjagdaa.grow W d0).heap.size (four a) b _ hv1.out (by simp [four]) hx1.out.size) ?_; rintro e w2 ⟨v2, rfl, hv2, hx2⟩)
  have hx2 : Ext (Go.Proofs.Ythamfkbopjagdaa.grow W d0) w2 := Below.trans hx1.out hx2
  refine ⟨_, Ext.refl _, hx2, ?_⟩
  have hv2 := hid hv2
  have hx2 := hid hx2
  refine step_act (by rfl) (fun K hK => ?_)
  go_wp2_with (go_at_call 69; refine Calls.mono (rfour v2 (Go.Proofs.Ythamfkbopjagdaa.grow W d0).heap.size (four a ++ four b) tp _ hv2.out (by simp [four]) hx2.out.size) ?_; rintro e w3 ⟨v3, rfl, hv3, hx3⟩)
  have hx3 : Ext (Go.Proofs.Ythamfkbopjagdaa.grow W d0) w3 := Below.trans hx2.out hx3
  refine ⟨_, Ext.refl _, hx3, ?_⟩
  have hs3 := hx3.size
  have g4 : w3.cell? ⟨w.heap.size, 4, none⟩ = some (.int .i64 p) := by
    rw [hx3.cells _ _ (by rw [grow_size]; omega), grow_cell _ _ _ _ f4]
    exact c4
  have g5 : w3.cell? ⟨w.heap.size, 5, none⟩ = some (.int .i64 ty) := by
    rw [hx3.cells _ _ (by rw [grow_size]; omega), grow_cell _ _ _ _ f4]
    exact c5
  have hq3 : w.heap.size < w3.heap.size := by rw [grow_size] at hs3; omega
  have hv3 := hid hv3
  have hx3 := hid hx3
  have HS3 := hid hs3
  clear hv1 hv2 hx1 hx2 c0 c1 c2 c3 c4 c5 hs3
  refine step_read (by rfl) (fun K hK => ?_); go_big_quiet_op; refine hK _ ?_; clear hK K
  refine step_nil ?_
  go_wp2_with (at_builtin; refine wpList_append_own _ rfl _ _ 39 rfl (Go.Proofs.Ythamfkbopjagdaa.grow W d0).heap.size 5 i0 _ 1 1 Try.underlying39 hi hz0 hz1 hz2 rfl (by decide) _ _ _ rfl (World.ownsRow.alloc hv3.out _) ⟨w3.heap.size, 0, none⟩ 4 4 (bvals [0, p % 256, 0, ty % 256]) rfl rfl ?c1 (bvals_one _) ?c3 ?c4 ?c5 ?_)
  case c1 => exact fun j u hj => World.news_of_block (heap_alloc_new w3 _) j u (by simpa [bvals] using hj)
  case c3 => simp [four, maxLen]
  case c4 => simp [four]
  case c5 => have := HS3.out; simp only [World.size_alloc]; omega
  intro v' w4 hown1 hgrow _
  have hown2 := OwnB.more hown1
  have hx4 : Ext (Go.Proofs.Ythamfkbopjagdaa.grow W d0) w4 := Ext.owned (Ext.alloc hx3.out _) (World.ownsRow.alloc hv3.out _) hgrow
  obtain ⟨q, ca, rfl, hl, hm, hq, hrd⟩ := OwnB.rd2 hown2 (by simp [four])
  have hq2 : w.heap.size ≤ q := by have h := hq; (try rw [grow_size] at h); omega
  have hl2 : 16 ≤ ca := hl
  have hrd2 : RdB w4 (some ⟨q, 0, none⟩) (bytesC ⟨t, b, tp, a, p, ty⟩) := hrd
  have HQ := hid (And.intro hl2 (And.intro hm (And.intro hq2 (And.intro hrd2 hx4))))
  clear hown1 hown2 hv3 hl hm hq hq2 hl2 hrd hrd2 hx4 hgrow
  go_wp2
  go_ret
  exact ⟨q, ca, rfl, HQ.out.1, HQ.out.2.1, HQ.out.2.2.1, HQ.out.2.2.2.1, Ext.trans (Ext.trans f1.out (Ext.grow (Ext.refl W) d0)) HQ.out.2.2.2.2⟩

end Go.Proofs.Ythamfkbopjagdaa

namespace Go.Proofs.Ythamfkbopjagdaa
set_option maxRecDepth 100000
set_option linter.unusedSimpArgs false
set_option linter.unusedVariables false
open Go.RowKit


theorem wraps_i64 (n : Int) (h0 : 0 ≤ n) (h1 : n < 2 ^ 63) : IntKind.i64.wrap n = n := by rw [IntKind.wrap_i64]; omega
theorem or256 {x y : Int} (h0 : 0 ≤ x) (h1 : x % 256 = 0) (h2 : x < 1099511627776) (h3 : 0 ≤ y) (h4 : y < 256) : bits .or .i64 x y = x + y :=
  bits_join .i64 63 (by decide) wraps_i64 8 x y h0 h1 (by omega) h3 h4 (by omega)
theorem or0 {y : Int} (h3 : 0 ≤ y) (h4 : y < 256) : bits .or .i64 0 y = y := by
  rw [or256 (by omega) (by omega) (by omega) h3 h4]; omega
theorem and127_all : ∀ n : Fin 256, bits .and .i64 (n.val : Int) 127 = (n.val : Int) % 128 := by decide +kernel
theorem and127 {n : Int} (h0 : 0 ≤ n) (h1 : n ≤ 255) : bits .and .i64 n 127 = n % 128 := by
  have := and127_all ⟨n.toNat, by omega⟩
  simpa [show ((n.toNat : Nat) : Int) = n by omega] using this
/-- The number of four bytes. -/
def num4 (a b c d : Int) : Int := ((a * 256 + b) * 256 + c) * 256 + d
theorem num4_bd {a b c d : Int} (ha : 0 ≤ a ∧ a ≤ 255) (hb : 0 ≤ b ∧ b ≤ 255) (hc : 0 ≤ c ∧ c ≤ 255) (hd : 0 ≤ d ∧ d ≤ 255) : 0 ≤ num4 a b c d ∧ num4 a b c d ≤ 4294967295 := by unfold num4; omega
def num4At (l : List Int) (i : Nat) : Int := num4 (l.getD i 0) (l.getD (i + 1) 0) (l.getD (i + 2) 0) (l.getD (i + 3) 0)
def bareC (l : List Int) : Cap := ⟨false, num4At l 4, num4At l 8, num4At l 0, l.getD 13 0 % 128, l.getD 15 0⟩
def wholeL (l : List Int) : Bool := decide (l.getD 12 0 = 0) && decide (l.getD 14 0 = 0) && decide (l.getD 13 0 ≤ 127)
def tagOf (l : List Int) (tag : Bool) : Bool := tag && (wholeL l && rightC { bareC l with tag := true })
def getL (l : List Int) (tag : Bool) : Cap := { bareC l with tag := tagOf l tag }
theorem sixteen {l : List Int} (h : l.length = 16) : ∃ x0 x1 x2 x3 x4 x5 x6 x7 x8 x9 x10 x11 x12 x13 x14 x15, l = [x0, x1, x2, x3, x4, x5, x6, x7, x8, x9, x10, x11, x12, x13, x14, x15] := by
  obtain _ | ⟨x0, l⟩ := l
  · simp at h
  obtain _ | ⟨x1, l⟩ := l
  · simp at h
  obtain _ | ⟨x2, l⟩ := l
  · simp at h
  obtain _ | ⟨x3, l⟩ := l
  · simp at h
  obtain _ | ⟨x4, l⟩ := l
  · simp at h
  obtain _ | ⟨x5, l⟩ := l
  · simp at h
  obtain _ | ⟨x6, l⟩ := l
  · simp at h
  obtain _ | ⟨x7, l⟩ := l
  · simp at h
  obtain _ | ⟨x8, l⟩ := l
  · simp at h
  obtain _ | ⟨x9, l⟩ := l
  · simp at h
  obtain _ | ⟨x10, l⟩ := l
  · simp at h
  obtain _ | ⟨x11, l⟩ := l
  · simp at h
  obtain _ | ⟨x12, l⟩ := l
  · simp at h
  obtain _ | ⟨x13, l⟩ := l
  · simp at h
  obtain _ | ⟨x14, l⟩ := l
  · simp at h
  obtain _ | ⟨x15, l⟩ := l
  · simp at h
  obtain _ | ⟨_, l⟩ := l
  · exact ⟨x0, x1, x2, x3, x4, x5, x6, x7, x8, x9, x10, x11, x12, x13, x14, x15, rfl⟩
  · simp at h
set_option maxRecDepth 100000 in
set_option maxHeartbeats 2000000 in
theorem word0 (x0 x1 x2 x3 x4 x5 x6 x7 x8 x9 x10 x11 x12 x13 x14 x15 : Int) (w : World) (l0 : 0 ≤ x0) (u0 : x0 ≤ 255) (l1 : 0 ≤ x1) (u1 : x1 ≤ 255) (l2 : 0 ≤ x2) (u2 : x2 ≤ 255) (l3 : 0 ≤ x3) (u3 : x3 ≤ 255) (l4 : 0 ≤ x4) (u4 : x4 ≤ 255) (l5 : 0 ≤ x5) (u5 : x5 ≤ 255) (l6 : 0 ≤ x6) (u6 : x6 ≤ 255) (l7 : 0 ≤ x7) (u7 : x7 ≤ 255) (l8 : 0 ≤ x8) (u8 : x8 ≤ 255) (l9 : 0 ≤ x9) (u9 : x9 ≤ 255) (l10 : 0 ≤ x10) (u10 : x10 ≤ 255) (l11 : 0 ≤ x11) (u11 : x11 ≤ 255) (l12 : 0 ≤ x12) (u12 : x12 ≤ 255) (l13 : 0 ≤ x13) (u13 : x13 ≤ 255) (l14 : 0 ≤ x14) (u14 : x14 ≤ 255) (l15 : 0 ≤ x15) (u15 : x15 ≤ 255) :
    Calls Try.prog 78 #[.agg #[.int .u8 x0, .int .u8 x1, .int .u8 x2, .int .u8 x3, .int .u8 x4, .int .u8 x5, .int .u8 x6, .int .u8 x7, .int .u8 x8, .int .u8 x9, .int .u8 x10, .int .u8 x11, .int .u8 x12, .int .u8 x13, .int .u8 x14, .int .u8 x15], .int .i64 0] w fun e w' => e = .returned (.int .i64 (num4 x0 x1 x2 x3)) ∧ Ext w w' := by
  unfold num4
  have q0 : bits .or .i64 0 x0 = x0 := or0 l0 (by omega)
  have q1 : bits .or .i64 (x0 * 256) x1 = x0 * 256 + x1 := or256 (by omega) (by omega) (by omega) (by omega) (by omega)
  have q2 : bits .or .i64 ((x0 * 256 + x1) * 256) x2 = (x0 * 256 + x1) * 256 + x2 := or256 (by omega) (by omega) (by omega) (by omega) (by omega)
  have q3 : bits .or .i64 (((x0 * 256 + x1) * 256 + x2) * 256) x3 = ((x0 * 256 + x1) * 256 + x2) * 256 + x3 := or256 (by omega) (by omega) (by omega) (by omega) (by omega)
  go_enter Try.func78, Try.ntmps78
  go_wp2
  refine wp_loop_rounds 5 ?_
  rw [rounds_succ]
  go_wp2
  rw [rounds_succ]
  go_wp2
  rw [rounds_succ]
  go_wp2
  rw [rounds_succ]
  go_wp2
  rw [rounds_succ]
  go_wp2
  go_ret
  exact ⟨rfl, (by repeat (first | (with_reducible exact Ext.refl _) | (with_reducible refine Ext.undrew ?_) | (with_reducible refine Ext.grow ?_ _) | (with_reducible refine Ext.drew ?_) | (with_reducible refine Ext.drewN ?_ _) | (with_reducible refine Ext.alloc ?_ _) | (with_reducible assumption) | ((with_reducible refine Ext.setCell ?_ ?_ _); rotate_left; (first | exact Nat.le_refl _ | ((try dsimp only); (try simp only [World.size_alloc, grow_size, World.size_setCell]); omega)))))⟩

set_option maxRecDepth 100000 in
set_option maxHeartbeats 2000000 in
theorem word4 (x0 x1 x2 x3 x4 x5 x6 x7 x8 x9 x10 x11 x12 x13 x14 x15 : Int) (w : World) (l0 : 0 ≤ x0) (u0 : x0 ≤ 255) (l1 : 0 ≤ x1) (u1 : x1 ≤ 255) (l2 : 0 ≤ x2) (u2 : x2 ≤ 255) (l3 : 0 ≤ x3) (u3 : x3 ≤ 255) (l4 : 0 ≤ x4) (u4 : x4 ≤ 255) (l5 : 0 ≤ x5) (u5 : x5 ≤ 255) (l6 : 0 ≤ x6) (u6 : x6 ≤ 255) (l7 : 0 ≤ x7) (u7 : x7 ≤ 255) (l8 : 0 ≤ x8) (u8 : x8 ≤ 255) (l9 : 0 ≤ x9) (u9 : x9 ≤ 255) (l10 : 0 ≤ x10) (u10 : x10 ≤ 255) (l11 : 0 ≤ x11) (u11 : x11 ≤ 255) (l12 : 0 ≤ x12) (u12 : x12 ≤ 255) (l13 : 0 ≤ x13) (u13 : x13 ≤ 255) (l14 : 0 ≤ x14) (u14 : x14 ≤ 255) (l15 : 0 ≤ x15) (u15 : x15 ≤ 255) :
    Calls Try.prog 78 #[.agg #[.int .u8 x0, .int .u8 x1, .int .u8 x2, .int .u8 x3, .int .u8 x4, .int .u8 x5, .int .u8 x6, .int .u8 x7, .int .u8 x8, .int .u8 x9, .int .u8 x10, .int .u8 x11, .int .u8 x12, .int .u8 x13, .int .u8 x14, .int .u8 x15], .int .i64 4] w fun e w' => e = .returned (.int .i64 (num4 x4 x5 x6 x7)) ∧ Ext w w' := by
  unfold num4
  have q0 : bits .or .i64 0 x4 = x4 := or0 l4 (by omega)
  have q1 : bits .or .i64 (x4 * 256) x5 = x4 * 256 + x5 := or256 (by omega) (by omega) (by omega) (by omega) (by omega)
  have q2 : bits .or .i64 ((x4 * 256 + x5) * 256) x6 = (x4 * 256 + x5) * 256 + x6 := or256 (by omega) (by omega) (by omega) (by omega) (by omega)
  have q3 : bits .or .i64 (((x4 * 256 + x5) * 256 + x6) * 256) x7 = ((x4 * 256 + x5) * 256 + x6) * 256 + x7 := or256 (by omega) (by omega) (by omega) (by omega) (by omega)
  go_enter Try.func78, Try.ntmps78
  go_wp2
  refine wp_loop_rounds 5 ?_
  rw [rounds_succ]
  go_wp2
  rw [rounds_succ]
  go_wp2
  rw [rounds_succ]
  go_wp2
  rw [rounds_succ]
  go_wp2
  rw [rounds_succ]
  go_wp2
  go_ret
  exact ⟨rfl, (by repeat (first | (with_reducible exact Ext.refl _) | (with_reducible refine Ext.undrew ?_) | (with_reducible refine Ext.grow ?_ _) | (with_reducible refine Ext.drew ?_) | (with_reducible refine Ext.drewN ?_ _) | (with_reducible refine Ext.alloc ?_ _) | (with_reducible assumption) | ((with_reducible refine Ext.setCell ?_ ?_ _); rotate_left; (first | exact Nat.le_refl _ | ((try dsimp only); (try simp only [World.size_alloc, grow_size, World.size_setCell]); omega)))))⟩

set_option maxRecDepth 100000 in
set_option maxHeartbeats 2000000 in
theorem word8 (x0 x1 x2 x3 x4 x5 x6 x7 x8 x9 x10 x11 x12 x13 x14 x15 : Int) (w : World) (l0 : 0 ≤ x0) (u0 : x0 ≤ 255) (l1 : 0 ≤ x1) (u1 : x1 ≤ 255) (l2 : 0 ≤ x2) (u2 : x2 ≤ 255) (l3 : 0 ≤ x3) (u3 : x3 ≤ 255) (l4 : 0 ≤ x4) (u4 : x4 ≤ 255) (l5 : 0 ≤ x5) (u5 : x5 ≤ 255) (l6 : 0 ≤ x6) (u6 : x6 ≤ 255) (l7 : 0 ≤ x7) (u7 : x7 ≤ 255) (l8 : 0 ≤ x8) (u8 : x8 ≤ 255) (l9 : 0 ≤ x9) (u9 : x9 ≤ 255) (l10 : 0 ≤ x10) (u10 : x10 ≤ 255) (l11 : 0 ≤ x11) (u11 : x11 ≤ 255) (l12 : 0 ≤ x12) (u12 : x12 ≤ 255) (l13 : 0 ≤ x13) (u13 : x13 ≤ 255) (l14 : 0 ≤ x14) (u14 : x14 ≤ 255) (l15 : 0 ≤ x15) (u15 : x15 ≤ 255) :
    Calls Try.prog 78 #[.agg #[.int .u8 x0, .int .u8 x1, .int .u8 x2, .int .u8 x3, .int .u8 x4, .int .u8 x5, .int .u8 x6, .int .u8 x7, .int .u8 x8, .int .u8 x9, .int .u8 x10, .int .u8 x11, .int .u8 x12, .int .u8 x13, .int .u8 x14, .int .u8 x15], .int .i64 8] w fun e w' => e = .returned (.int .i64 (num4 x8 x9 x10 x11)) ∧ Ext w w' := by
  unfold num4
  have q0 : bits .or .i64 0 x8 = x8 := or0 l8 (by omega)
  have q1 : bits .or .i64 (x8 * 256) x9 = x8 * 256 + x9 := or256 (by omega) (by omega) (by omega) (by omega) (by omega)
  have q2 : bits .or .i64 ((x8 * 256 + x9) * 256) x10 = (x8 * 256 + x9) * 256 + x10 := or256 (by omega) (by omega) (by omega) (by omega) (by omega)
  have q3 : bits .or .i64 (((x8 * 256 + x9) * 256 + x10) * 256) x11 = ((x8 * 256 + x9) * 256 + x10) * 256 + x11 := or256 (by omega) (by omega) (by omega) (by omega) (by omega)
  go_enter Try.func78, Try.ntmps78
  go_wp2
  refine wp_loop_rounds 5 ?_
  rw [rounds_succ]
  go_wp2
  rw [rounds_succ]
  go_wp2
  rw [rounds_succ]
  go_wp2
  rw [rounds_succ]
  go_wp2
  rw [rounds_succ]
  go_wp2
  go_ret
  exact ⟨rfl, (by repeat (first | (with_reducible exact Ext.refl _) | (with_reducible refine Ext.undrew ?_) | (with_reducible refine Ext.grow ?_ _) | (with_reducible refine Ext.drew ?_) | (with_reducible refine Ext.drewN ?_ _) | (with_reducible refine Ext.alloc ?_ _) | (with_reducible assumption) | ((with_reducible refine Ext.setCell ?_ ?_ _); rotate_left; (first | exact Nat.le_refl _ | ((try dsimp only); (try simp only [World.size_alloc, grow_size, World.size_setCell]); omega)))))⟩

set_option maxHeartbeats 2000000 in
theorem unfour_ (b o ca : Nat) (y0 y1 y2 y3 : Int) (w : World) (hb : b < w.heap.size) (hc : w.cell? ⟨b, o, none⟩ = some (.int .u8 y0) ∧ w.cell? ⟨b, o + 1, none⟩ = some (.int .u8 y1) ∧ w.cell? ⟨b, o + 2, none⟩ = some (.int .u8 y2) ∧ w.cell? ⟨b, o + 3, none⟩ = some (.int .u8 y3)) (hy : 0 ≤ y0 ∧ y0 ≤ 255 ∧ 0 ≤ y1 ∧ y1 ≤ 255 ∧ 0 ≤ y2 ∧ y2 ≤ 255 ∧ 0 ≤ y3 ∧ y3 ≤ 255) :
    Calls Try.prog 85 #[.slice (some ⟨b, o, none⟩) 4 ca] w fun e w' => e = .returned (.int .i64 (num4 y0 y1 y2 y3)) ∧ Ext w w' := by
  obtain ⟨c0, c1, c2, c3⟩ := hc
  have e : num4 y0 y1 y2 y3 = 16777216 * y0 + 65536 * y1 + 256 * y2 + y3 := by unfold num4; omega
  rw [e]
  clear e
  go_enter Try.func85, Try.ntmps85
  go_wp2
  refine wp_region_grow (by kernel_rfl) (by kernel_rfl) (by first | (simp only [List.append]; rfl) | rfl) ?_; (repeat (first | ((first | refine quiet_pick_and (by rfl) (by rfl) (by rfl) (by rfl) ?_ | refine quiet_pick_or (by rfl) (by rfl) (by rfl) (by rfl) ?_); simp only [Act.put, List.setIfInBounds_toArray, List.set_cons_zero, List.set_cons_succ]) | go_big_quiet_step (fail) | (refine quiet_guard (v := ?_) (by rfl) (by rfl) (fun hX w hC => ?_) ?_; rotate_left; (obtain ⟨d, rfl⟩ := hC; (try simp only [Bool.and_eq_true, Bool.or_eq_false_iff] at hX); go_split_ands; go_simp; (first | with_reducible rfl | fail)); simp only [Act.put, List.setIfInBounds_toArray, List.set_cons_zero, List.set_cons_succ]))); refine wpQuiet_nil ?_; intro wq hq; obtain ⟨d, rfl⟩ := hq
  go_wp2
  go_ret
  exact ⟨rfl, (by repeat (first | (with_reducible exact Ext.refl _) | (with_reducible refine Ext.undrew ?_) | (with_reducible refine Ext.grow ?_ _) | (with_reducible refine Ext.drew ?_) | (with_reducible refine Ext.drewN ?_ _) | (with_reducible refine Ext.alloc ?_ _) | (with_reducible assumption) | ((with_reducible refine Ext.setCell ?_ ?_ _); rotate_left; (first | exact Nat.le_refl _ | ((try dsimp only); (try simp only [World.size_alloc, grow_size, World.size_setCell]); omega)))))⟩

end Go.Proofs.Ythamfkbopjagdaa

namespace Go.Proofs.Ythamfkbopjagdaa
set_option maxRecDepth 100000
set_option linter.unusedSimpArgs false
set_option linter.unusedVariables false
open Go.RowKit

set_option maxRecDepth 100000 in
set_option maxHeartbeats 2000000 in
theorem whole_ (x0 x1 x2 x3 x4 x5 x6 x7 x8 x9 x10 x11 x12 x13 x14 x15 : Int) (w : World) :
    Calls Try.prog 79 #[.agg #[.int .u8 x0, .int .u8 x1, .int .u8 x2, .int .u8 x3, .int .u8 x4, .int .u8 x5, .int .u8 x6, .int .u8 x7, .int .u8 x8, .int .u8 x9, .int .u8 x10, .int .u8 x11, .int .u8 x12, .int .u8 x13, .int .u8 x14, .int .u8 x15]] w fun e w' => e = .returned (.bool (wholeL [x0, x1, x2, x3, x4, x5, x6, x7, x8, x9, x10, x11, x12, x13, x14, x15])) ∧ Ext w w' := by
  have e : wholeL [x0, x1, x2, x3, x4, x5, x6, x7, x8, x9, x10, x11, x12, x13, x14, x15] = (decide (x12 = 0) && decide (x14 = 0) && decide (x13 ≤ 127)) := rfl
  by_cases h1 : x12 = 0 <;> by_cases h2 : x14 = 0 <;> by_cases h3 : x13 ≤ 127
  all_goals
    rw [e]
    simp only [h1, h2, h3, decide_true, decide_false, Bool.and_true, Bool.and_false, Bool.false_and]
    clear e
  all_goals (try subst h1); (try subst h2)
  all_goals (go_enter Try.func79, Try.ntmps79; go_wp2)
  all_goals go_ret
  all_goals exact ⟨rfl, (by repeat (first | (with_reducible exact Ext.refl _) | (with_reducible refine Ext.undrew ?_) | (with_reducible refine Ext.grow ?_ _) | (with_reducible refine Ext.drew ?_) | (with_reducible refine Ext.drewN ?_ _) | (with_reducible refine Ext.alloc ?_ _) | (with_reducible assumption) | ((with_reducible refine Ext.setCell ?_ ?_ _); rotate_left; (first | exact Nat.le_refl _ | ((try dsimp only); (try simp only [World.size_alloc, grow_size, World.size_setCell]); omega)))))⟩

set_option maxHeartbeats 800000 in
theorem taggable_ (t : Bool) (b tp a p ty : Int) (w : World) :
    Calls Try.prog 80 #[.agg #[.bool t, .int .i64 b, .int .i64 tp, .int .i64 a, .int .i64 p, .int .i64 ty]] w fun e w' => e = .returned (.bool (rightC ⟨true, b, tp, a, p, ty⟩)) ∧ Ext w w' := by
  go_enter Try.func80, Try.ntmps80
  go_wp2_with (go_at_call 50; refine (capRight _ _ _ _ _ _ _).mono ?_; rintro e w1 ⟨rfl, hy⟩; obtain ⟨d, rfl⟩ := hy.grown; clear hy)
  go_ret
  exact ⟨rfl, (by repeat (first | (with_reducible exact Ext.refl _) | (with_reducible refine Ext.undrew ?_) | (with_reducible refine Ext.grow ?_ _) | (with_reducible refine Ext.drew ?_) | (with_reducible refine Ext.drewN ?_ _) | (with_reducible refine Ext.alloc ?_ _) | (with_reducible assumption) | ((with_reducible refine Ext.setCell ?_ ?_ _); rotate_left; (first | exact Nat.le_refl _ | ((try dsimp only); (try simp only [World.size_alloc, grow_size, World.size_setCell]); omega)))))⟩

end Go.Proofs.Ythamfkbopjagdaa

namespace Go.Proofs.Ythamfkbopjagdaa
set_option maxRecDepth 100000
set_option linter.unusedSimpArgs false
set_option linter.unusedVariables false
open Go.RowKit


theorem arrayAt16 (b o c : Nat) (w : World) : (Instr.arrayAt 94 (.slice (some ⟨b, o, none⟩) 16 c)).run Try.prog w = .ok (.pointer (some ⟨b, o, none⟩)) w := by kernel_rfl
attribute [local go_sem] arrayAt16
theorem RdB.six {w : World} {b o : Nat} (x0 x1 x2 x3 x4 x5 x6 x7 x8 x9 x10 x11 x12 x13 x14 x15 : Int) (h : RdB w (some ⟨b, o, none⟩) [x0, x1, x2, x3, x4, x5, x6, x7, x8, x9, x10, x11, x12, x13, x14, x15]) : w.cell? ⟨b, o, none⟩ = some (.int .u8 x0) ∧ w.cell? ⟨b, o + 1, none⟩ = some (.int .u8 x1) ∧ w.cell? ⟨b, o + 2, none⟩ = some (.int .u8 x2) ∧ w.cell? ⟨b, o + 3, none⟩ = some (.int .u8 x3) ∧ w.cell? ⟨b, o + 4, none⟩ = some (.int .u8 x4) ∧ w.cell? ⟨b, o + 5, none⟩ = some (.int .u8 x5) ∧ w.cell? ⟨b, o + 6, none⟩ = some (.int .u8 x6) ∧ w.cell? ⟨b, o + 7, none⟩ = some (.int .u8 x7) ∧ w.cell? ⟨b, o + 8, none⟩ = some (.int .u8 x8) ∧ w.cell? ⟨b, o + 9, none⟩ = some (.int .u8 x9) ∧ w.cell? ⟨b, o + 10, none⟩ = some (.int .u8 x10) ∧ w.cell? ⟨b, o + 11, none⟩ = some (.int .u8 x11) ∧ w.cell? ⟨b, o + 12, none⟩ = some (.int .u8 x12) ∧ w.cell? ⟨b, o + 13, none⟩ = some (.int .u8 x13) ∧ w.cell? ⟨b, o + 14, none⟩ = some (.int .u8 x14) ∧ w.cell? ⟨b, o + 15, none⟩ = some (.int .u8 x15) := by
  obtain ⟨b', o', hA, _, hc⟩ := h (by simp)
  cases hA
  exact ⟨hc 0 (by simp), hc 1 (by simp), hc 2 (by simp), hc 3 (by simp), hc 4 (by simp), hc 5 (by simp), hc 6 (by simp), hc 7 (by simp), hc 8 (by simp), hc 9 (by simp), hc 10 (by simp), hc 11 (by simp), hc 12 (by simp), hc 13 (by simp), hc 14 (by simp), hc 15 (by simp)⟩
theorem bare_cap (x0 x1 x2 x3 x4 x5 x6 x7 x8 x9 x10 x11 x12 x13 x14 x15 : Int) : bareC [x0, x1, x2, x3, x4, x5, x6, x7, x8, x9, x10, x11, x12, x13, x14, x15] = ⟨false, num4 x4 x5 x6 x7, num4 x8 x9 x10 x11, num4 x0 x1 x2 x3, x13 % 128, x15⟩ := rfl
set_option maxHeartbeats 800000 in
theorem get_no (A : Option Addr) (n ca : Nat) (tag : Bool) (w : World) (hn : ¬ (n : Int) = 16) :
    Calls Try.prog 61 #[.slice A n ca, .bool tag] w fun e w' => e = .returned (.tuple #[.agg #[.bool false, .int .i64 0, .int .i64 0, .int .i64 0, .int .i64 0, .int .i64 0], .bool false]) ∧ Ext w w' := by
  go_enter Try.func61, Try.ntmps61
  go_wp2
  refine bodyPost_ret (v := .tuple #[.agg #[.bool false, .int .i64 0, .int .i64 0, .int .i64 0, .int .i64 0, .int .i64 0], .bool false]) (by simp [results, Try.results61, go_sem]) rfl ⟨rfl, (by repeat (first | (with_reducible exact Ext.refl _) | (with_reducible refine Ext.undrew ?_) | (with_reducible refine Ext.grow ?_ _) | (with_reducible refine Ext.drew ?_) | (with_reducible refine Ext.drewN ?_ _) | (with_reducible refine Ext.alloc ?_ _) | (with_reducible assumption) | ((with_reducible refine Ext.setCell ?_ ?_ _); rotate_left; (first | exact Nat.le_refl _ | ((try dsimp only); (try simp only [World.size_alloc, grow_size, World.size_setCell]); omega)))))⟩

set_option maxRecDepth 100000 in
set_option maxHeartbeats 4000000 in
theorem get_yes (b o ca : Nat) (x0 x1 x2 x3 x4 x5 x6 x7 x8 x9 x10 x11 x12 x13 x14 x15 : Int) (tag : Bool) (w : World) (hr : RdB w (some ⟨b, o, none⟩) [x0, x1, x2, x3, x4, x5, x6, x7, x8, x9, x10, x11, x12, x13, x14, x15]) (hca : 16 ≤ ca) (hcm : ca ≤ maxLen) (l0 : 0 ≤ x0) (u0 : x0 ≤ 255) (l1 : 0 ≤ x1) (u1 : x1 ≤ 255) (l2 : 0 ≤ x2) (u2 : x2 ≤ 255) (l3 : 0 ≤ x3) (u3 : x3 ≤ 255) (l4 : 0 ≤ x4) (u4 : x4 ≤ 255) (l5 : 0 ≤ x5) (u5 : x5 ≤ 255) (l6 : 0 ≤ x6) (u6 : x6 ≤ 255) (l7 : 0 ≤ x7) (u7 : x7 ≤ 255) (l8 : 0 ≤ x8) (u8 : x8 ≤ 255) (l9 : 0 ≤ x9) (u9 : x9 ≤ 255) (l10 : 0 ≤ x10) (u10 : x10 ≤ 255) (l11 : 0 ≤ x11) (u11 : x11 ≤ 255) (l12 : 0 ≤ x12) (u12 : x12 ≤ 255) (l13 : 0 ≤ x13) (u13 : x13 ≤ 255) (l14 : 0 ≤ x14) (u14 : x14 ≤ 255) (l15 : 0 ≤ x15) (u15 : x15 ≤ 255) :
    Calls Try.prog 61 #[.slice (some ⟨b, o, none⟩) 16 ca, .bool tag] w fun e w' => e = .returned (.tuple #[.agg #[.bool (getL [x0, x1, x2, x3, x4, x5, x6, x7, x8, x9, x10, x11, x12, x13, x14, x15] tag).tag, .int .i64 (getL [x0, x1, x2, x3, x4, x5, x6, x7, x8, x9, x10, x11, x12, x13, x14, x15] tag).base, .int .i64 (getL [x0, x1, x2, x3, x4, x5, x6, x7, x8, x9, x10, x11, x12, x13, x14, x15] tag).top, .int .i64 (getL [x0, x1, x2, x3, x4, x5, x6, x7, x8, x9, x10, x11, x12, x13, x14, x15] tag).at_, .int .i64 (getL [x0, x1, x2, x3, x4, x5, x6, x7, x8, x9, x10, x11, x12, x13, x14, x15] tag).perms, .int .i64 (getL [x0, x1, x2, x3, x4, x5, x6, x7, x8, x9, x10, x11, x12, x13, x14, x15] tag).type], .bool true]) ∧ Ext w w' := by
  have HR := hid hr
  have hb := hr.lt (by simp)
  have a13 := and127 l13 u13
  obtain ⟨TG, htg⟩ : ∃ b, rightC ⟨true, num4 x4 x5 x6 x7, num4 x8 x9 x10 x11, num4 x0 x1 x2 x3, x13 % 128, x15⟩ = b := ⟨_, rfl⟩
  obtain ⟨WH, hwh⟩ : ∃ b, wholeL [x0, x1, x2, x3, x4, x5, x6, x7, x8, x9, x10, x11, x12, x13, x14, x15] = b := ⟨_, rfl⟩
  have e : getL [x0, x1, x2, x3, x4, x5, x6, x7, x8, x9, x10, x11, x12, x13, x14, x15] tag = ⟨tag && (WH && TG), num4 x4 x5 x6 x7, num4 x8 x9 x10 x11, num4 x0 x1 x2 x3, x13 % 128, x15⟩ := by
    unfold getL tagOf
    rw [bare_cap, hwh]
    simp only [htg]
  rw [e]
  clear e hr
  go_enter Try.func61, Try.ntmps61
  go_wp2_with (with_reducible refine wpList_load_mid rfl 94 (.tmp 13) rfl b o rfl [.int .u8 x0, .int .u8 x1, .int .u8 x2, .int .u8 x3, .int .u8 x4, .int .u8 x5, .int .u8 x6, .int .u8 x7, .int .u8 x8, .int .u8 x9, .int .u8 x10, .int .u8 x11, .int .u8 x12, .int .u8 x13, .int .u8 x14, .int .u8 x15] _ (show World.rangeAt _ b o [.int .u8 x0, .int .u8 x1, .int .u8 x2, .int .u8 x3, .int .u8 x4, .int .u8 x5, .int .u8 x6, .int .u8 x7, .int .u8 x8, .int .u8 x9, .int .u8 x10, .int .u8 x11, .int .u8 x12, .int .u8 x13, .int .u8 x14, .int .u8 x15] from RdB.range (HR.out.ext (by repeat (first | (with_reducible exact Ext.refl _) | (with_reducible refine Ext.undrew ?_) | (with_reducible refine Ext.grow ?_ _) | (with_reducible refine Ext.drew ?_) | (with_reducible refine Ext.drewN ?_ _) | (with_reducible refine Ext.alloc ?_ _) | (with_reducible assumption) | ((with_reducible refine Ext.setCell ?_ ?_ _); rotate_left; (first | exact Nat.le_refl _ | ((try dsimp only); (try simp only [World.size_alloc, grow_size, World.size_setCell]); omega))))))) Try.underlying94 rfl (by kernel_rfl) ?_)
  have f1 : Hid (Ext w ((w.alloc (.cells #[.bool false, .int .i64 0, .int .i64 0, .int .i64 0, .int .i64 0, .int .i64 0] 24)).alloc (.cells #[.int .u8 x0, .int .u8 x1, .int .u8 x2, .int .u8 x3, .int .u8 x4, .int .u8 x5, .int .u8 x6, .int .u8 x7, .int .u8 x8, .int .u8 x9, .int .u8 x10, .int .u8 x11, .int .u8 x12, .int .u8 x13, .int .u8 x14, .int .u8 x15] 94))) := hid (by repeat (first | (with_reducible exact Ext.refl _) | (with_reducible refine Ext.undrew ?_) | (with_reducible refine Ext.grow ?_ _) | (with_reducible refine Ext.drew ?_) | (with_reducible refine Ext.drewN ?_ _) | (with_reducible refine Ext.alloc ?_ _) | (with_reducible assumption) | ((with_reducible refine Ext.setCell ?_ ?_ _); rotate_left; (first | exact Nat.le_refl _ | ((try dsimp only); (try simp only [World.size_alloc, grow_size, World.size_setCell]); omega)))))
  have f2 : Hid (RdB ((w.alloc (.cells #[.bool false, .int .i64 0, .int .i64 0, .int .i64 0, .int .i64 0, .int .i64 0] 24)).alloc (.cells #[.int .u8 x0, .int .u8 x1, .int .u8 x2, .int .u8 x3, .int .u8 x4, .int .u8 x5, .int .u8 x6, .int .u8 x7, .int .u8 x8, .int .u8 x9, .int .u8 x10, .int .u8 x11, .int .u8 x12, .int .u8 x13, .int .u8 x14, .int .u8 x15] 94)) (some ⟨w.heap.size + 1, 0, none⟩) [x0, x1, x2, x3, x4, x5, x6, x7, x8, x9, x10, x11, x12, x13, x14, x15]) := hid fun _ => ⟨_, _, rfl, by simp, fun j hj => by
    match j, hj with
    | 0, _ => simp [go_sem]
    | 1, _ => simp [go_sem]
    | 2, _ => simp [go_sem]
    | 3, _ => simp [go_sem]
    | 4, _ => simp [go_sem]
    | 5, _ => simp [go_sem]
    | 6, _ => simp [go_sem]
    | 7, _ => simp [go_sem]
    | 8, _ => simp [go_sem]
    | 9, _ => simp [go_sem]
    | 10, _ => simp [go_sem]
    | 11, _ => simp [go_sem]
    | 12, _ => simp [go_sem]
    | 13, _ => simp [go_sem]
    | 14, _ => simp [go_sem]
    | 15, _ => simp [go_sem]
    | k + 16, h => exact absurd h (by simp)⟩
  have f3 : ((w.alloc (.cells #[.bool false, .int .i64 0, .int .i64 0, .int .i64 0, .int .i64 0, .int .i64 0] 24)).alloc (.cells #[.int .u8 x0, .int .u8 x1, .int .u8 x2, .int .u8 x3, .int .u8 x4, .int .u8 x5, .int .u8 x6, .int .u8 x7, .int .u8 x8, .int .u8 x9, .int .u8 x10, .int .u8 x11, .int .u8 x12, .int .u8 x13, .int .u8 x14, .int .u8 x15] 94)).cell? ⟨w.heap.size, 0, none⟩ = some (.bool false) ∧ ((w.alloc (.cells #[.bool false, .int .i64 0, .int .i64 0, .int .i64 0, .int .i64 0, .int .i64 0] 24)).alloc (.cells #[.int .u8 x0, .int .u8 x1, .int .u8 x2, .int .u8 x3, .int .u8 x4, .int .u8 x5, .int .u8 x6, .int .u8 x7, .int .u8 x8, .int .u8 x9, .int .u8 x10, .int .u8 x11, .int .u8 x12, .int .u8 x13, .int .u8 x14, .int .u8 x15] 94)).frozen? ⟨w.heap.size, 0, none⟩ = false ∧ ((w.alloc (.cells #[.bool false, .int .i64 0, .int .i64 0, .int .i64 0, .int .i64 0, .int .i64 0] 24)).alloc (.cells #[.int .u8 x0, .int .u8 x1, .int .u8 x2, .int .u8 x3, .int .u8 x4, .int .u8 x5, .int .u8 x6, .int .u8 x7, .int .u8 x8, .int .u8 x9, .int .u8 x10, .int .u8 x11, .int .u8 x12, .int .u8 x13, .int .u8 x14, .int .u8 x15] 94)).cell? ⟨w.heap.size, 1, none⟩ = some (.int .i64 0) ∧ ((w.alloc (.cells #[.bool false, .int .i64 0, .int .i64 0, .int .i64 0, .int .i64 0, .int .i64 0] 24)).alloc (.cells #[.int .u8 x0, .int .u8 x1, .int .u8 x2, .int .u8 x3, .int .u8 x4, .int .u8 x5, .int .u8 x6, .int .u8 x7, .int .u8 x8, .int .u8 x9, .int .u8 x10, .int .u8 x11, .int .u8 x12, .int .u8 x13, .int .u8 x14, .int .u8 x15] 94)).frozen? ⟨w.heap.size, 1, none⟩ = false ∧ ((w.alloc (.cells #[.bool false, .int .i64 0, .int .i64 0, .int .i64 0, .int .i64 0, .int .i64 0] 24)).alloc (.cells #[.int .u8 x0, .int .u8 x1, .int .u8 x2, .int .u8 x3, .int .u8 x4, .int .u8 x5, .int .u8 x6, .int .u8 x7, .int .u8 x8, .int .u8 x9, .int .u8 x10, .int .u8 x11, .int .u8 x12, .int .u8 x13, .int .u8 x14, .int .u8 x15] 94)).cell? ⟨w.heap.size, 2, none⟩ = some (.int .i64 0) ∧ ((w.alloc (.cells #[.bool false, .int .i64 0, .int .i64 0, .int .i64 0, .int .i64 0, .int .i64 0] 24)).alloc (.cells #[.int .u8 x0, .int .u8 x1, .int .u8 x2, .int .u8 x3, .int .u8 x4, .int .u8 x5, .int .u8 x6, .int .u8 x7, .int .u8 x8, .int .u8 x9, .int .u8 x10, .int .u8 x11, .int .u8 x12, .int .u8 x13, .int .u8 x14, .int .u8 x15] 94)).frozen? ⟨w.heap.size, 2, none⟩ = false ∧ ((w.alloc (.cells #[.bool false, .int .i64 0, .int .i64 0, .int .i64 0, .int .i64 0, .int .i64 0] 24)).alloc (.cells #[.int .u8 x0, .int .u8 x1, .int .u8 x2, .int .u8 x3, .int .u8 x4, .int .u8 x5, .int .u8 x6, .int .u8 x7, .int .u8 x8, .int .u8 x9, .int .u8 x10, .int .u8 x11, .int .u8 x12, .int .u8 x13, .int .u8 x14, .int .u8 x15] 94)).cell? ⟨w.heap.size, 3, none⟩ = some (.int .i64 0) ∧ ((w.alloc (.cells #[.bool false, .int .i64 0, .int .i64 0, .int .i64 0, .int .i64 0, .int .i64 0] 24)).alloc (.cells #[.int .u8 x0, .int .u8 x1, .int .u8 x2, .int .u8 x3, .int .u8 x4, .int .u8 x5, .int .u8 x6, .int .u8 x7, .int .u8 x8, .int .u8 x9, .int .u8 x10, .int .u8 x11, .int .u8 x12, .int .u8 x13, .int .u8 x14, .int .u8 x15] 94)).frozen? ⟨w.heap.size, 3, none⟩ = false ∧ ((w.alloc (.cells #[.bool false, .int .i64 0, .int .i64 0, .int .i64 0, .int .i64 0, .int .i64 0] 24)).alloc (.cells #[.int .u8 x0, .int .u8 x1, .int .u8 x2, .int .u8 x3, .int .u8 x4, .int .u8 x5, .int .u8 x6, .int .u8 x7, .int .u8 x8, .int .u8 x9, .int .u8 x10, .int .u8 x11, .int .u8 x12, .int .u8 x13, .int .u8 x14, .int .u8 x15] 94)).cell? ⟨w.heap.size, 4, none⟩ = some (.int .i64 0) ∧ ((w.alloc (.cells #[.bool false, .int .i64 0, .int .i64 0, .int .i64 0, .int .i64 0, .int .i64 0] 24)).alloc (.cells #[.int .u8 x0, .int .u8 x1, .int .u8 x2, .int .u8 x3, .int .u8 x4, .int .u8 x5, .int .u8 x6, .int .u8 x7, .int .u8 x8, .int .u8 x9, .int .u8 x10, .int .u8 x11, .int .u8 x12, .int .u8 x13, .int .u8 x14, .int .u8 x15] 94)).frozen? ⟨w.heap.size, 4, none⟩ = false ∧ ((w.alloc (.cells #[.bool false, .int .i64 0, .int .i64 0, .int .i64 0, .int .i64 0, .int .i64 0] 24)).alloc (.cells #[.int .u8 x0, .int .u8 x1, .int .u8 x2, .int .u8 x3, .int .u8 x4, .int .u8 x5, .int .u8 x6, .int .u8 x7, .int .u8 x8, .int .u8 x9, .int .u8 x10, .int .u8 x11, .int .u8 x12, .int .u8 x13, .int .u8 x14, .int .u8 x15] 94)).cell? ⟨w.heap.size, 5, none⟩ = some (.int .i64 0) ∧ ((w.alloc (.cells #[.bool false, .int .i64 0, .int .i64 0, .int .i64 0, .int .i64 0, .int .i64 0] 24)).alloc (.cells #[.int .u8 x0, .int .u8 x1, .int .u8 x2, .int .u8 x3, .int .u8 x4, .int .u8 x5, .int .u8 x6, .int .u8 x7, .int .u8 x8, .int .u8 x9, .int .u8 x10, .int .u8 x11, .int .u8 x12, .int .u8 x13, .int .u8 x14, .int .u8 x15] 94)).frozen? ⟨w.heap.size, 5, none⟩ = false := by simp [go_sem]
  have f4 : ((w.alloc (.cells #[.bool false, .int .i64 0, .int .i64 0, .int .i64 0, .int .i64 0, .int .i64 0] 24)).alloc (.cells #[.int .u8 x0, .int .u8 x1, .int .u8 x2, .int .u8 x3, .int .u8 x4, .int .u8 x5, .int .u8 x6, .int .u8 x7, .int .u8 x8, .int .u8 x9, .int .u8 x10, .int .u8 x11, .int .u8 x12, .int .u8 x13, .int .u8 x14, .int .u8 x15] 94)).heap.size = w.heap.size + 2 := by simp
  generalize ((w.alloc (.cells #[.bool false, .int .i64 0, .int .i64 0, .int .i64 0, .int .i64 0, .int .i64 0] 24)).alloc (.cells #[.int .u8 x0, .int .u8 x1, .int .u8 x2, .int .u8 x3, .int .u8 x4, .int .u8 x5, .int .u8 x6, .int .u8 x7, .int .u8 x8, .int .u8 x9, .int .u8 x10, .int .u8 x11, .int .u8 x12, .int .u8 x13, .int .u8 x14, .int .u8 x15] 94)) = W at f1 f2 f3 f4 ⊢
  obtain ⟨c0, z0, c1, z1, c2, z2, c3, z3, c4, z4, c5, z5⟩ := f3
  have hq : w.heap.size < W.heap.size := by omega
  have hq1 : w.heap.size + 1 < W.heap.size := by omega
  have k13 : W.cell? ⟨w.heap.size + 1, 13, none⟩ = some (.int .u8 x13) := f2.out.six.2.2.2.2.2.2.2.2.2.2.2.2.2.1
  have k15 : W.cell? ⟨w.heap.size + 1, 15, none⟩ = some (.int .u8 x15) := f2.out.six.2.2.2.2.2.2.2.2.2.2.2.2.2.2.2
  clear HR hb hca hcm f4
  go_cut [7] (fun s7 wx => ∃ g : Nat, s7 = .pointer (some ⟨g, 0, none⟩) ∧ W.heap.size ≤ g ∧ g < wx.heap.size ∧ Hid (Ext W wx) ∧ wx.cell? ⟨g, 0, none⟩ = some (.bool false) ∧ wx.frozen? ⟨g, 0, none⟩ = false ∧ wx.cell? ⟨g, 1, none⟩ = some (.int .i64 (num4 x4 x5 x6 x7)) ∧ wx.frozen? ⟨g, 1, none⟩ = false ∧ wx.cell? ⟨g, 2, none⟩ = some (.int .i64 (num4 x8 x9 x10 x11)) ∧ wx.frozen? ⟨g, 2, none⟩ = false ∧ wx.cell? ⟨g, 3, none⟩ = some (.int .i64 (num4 x0 x1 x2 x3)) ∧ wx.frozen? ⟨g, 3, none⟩ = false ∧ wx.cell? ⟨g, 4, none⟩ = some (.int .i64 (x13 % 128)) ∧ wx.frozen? ⟨g, 4, none⟩ = false ∧ wx.cell? ⟨g, 5, none⟩ = some (.int .i64 x15) ∧ wx.frozen? ⟨g, 5, none⟩ = false)
  case first =>
    refine wp_region_step (.rd 0 (.rd 2 (.rd 4 (.rd 6 (.rd 7 (.rd 8 (.rd 9 (.rd 10 (.rd 11 (.rd 12 (.br 1 (.br 3 (.br 5 (.rd 13 (.ac 14 (.ac 15 .done))) 14 (.ac 5 (.rd 13 (.ac 15 .done)))) 14 (.ac 3 (.ac 5 (.rd 13 (.ac 15 .done))))) 14 (.ac 1 (.ac 3 (.ac 5 (.rd 13 (.ac 15 .done)))))))))))))))) (by kernel_rfl) (by kernel_rfl) (fun _ _ d _ _ h => by cases d <;> exact h) (by simp only [Ord.map, nthOp, List.append]; rfl) ?_
    intro d0
    repeat' (first | (refine step_read (by rfl) (fun K hK => ?_); refine quiet_load 94 (.tmp 6) rfl (w.heap.size + 1) 0 rfl [.int .u8 x0, .int .u8 x1, .int .u8 x2, .int .u8 x3, .int .u8 x4, .int .u8 x5, .int .u8 x6, .int .u8 x7, .int .u8 x8, .int .u8 x9, .int .u8 x10, .int .u8 x11, .int .u8 x12, .int .u8 x13, .int .u8 x14, .int .u8 x15] _ (RdB.range (f2.out.ext (by repeat (first | (with_reducible exact Ext.refl _) | (with_reducible refine Ext.undrew ?_) | (with_reducible refine Ext.grow ?_ _) | (with_reducible refine Ext.drew ?_) | (with_reducible refine Ext.drewN ?_ _) | (with_reducible refine Ext.alloc ?_ _) | (with_reducible assumption) | ((with_reducible refine Ext.setCell ?_ ?_ _); rotate_left; (first | exact Nat.le_refl _ | ((try dsimp only); (try simp only [World.size_alloc, grow_size, World.size_setCell]); omega))))))) (by simp only [grow_size, World.size_drew, World.size_alloc]; omega) Try.underlying94 rfl (by kernel_rfl) ?_; refine hK _ ?_; clear hK K; simp only [Act.put, List.setIfInBounds_toArray, List.set_cons_zero, List.set_cons_succ]) | (refine step_read (by rfl) (fun K hK => ?_); go_big_quiet_op; refine hK _ ?_; clear hK K) | (refine step_act (by rfl) (fun K hK => ?_); go_wp2_with (first | (go_at_call 78; with_reducible refine (word4 _ _ _ _ _ _ _ _ _ _ _ _ _ _ _ _ _ l0 u0 l1 u1 l2 u2 l3 u3 l4 u4 l5 u5 l6 u6 l7 u7 l8 u8 l9 u9 l10 u10 l11 u11 l12 u12 l13 u13 l14 u14 l15 u15).mono ?_; rintro e w1 ⟨rfl, hy⟩; obtain ⟨d, rfl⟩ := hy.grown; clear hy) | (go_at_call 78; with_reducible refine (word8 _ _ _ _ _ _ _ _ _ _ _ _ _ _ _ _ _ l0 u0 l1 u1 l2 u2 l3 u3 l4 u4 l5 u5 l6 u6 l7 u7 l8 u8 l9 u9 l10 u10 l11 u11 l12 u12 l13 u13 l14 u14 l15 u15).mono ?_; rintro e w1 ⟨rfl, hy⟩; obtain ⟨d, rfl⟩ := hy.grown; clear hy) | (go_at_call 78; with_reducible refine (word0 _ _ _ _ _ _ _ _ _ _ _ _ _ _ _ _ _ l0 u0 l1 u1 l2 u2 l3 u3 l4 u4 l5 u5 l6 u6 l7 u7 l8 u8 l9 u9 l10 u10 l11 u11 l12 u12 l13 u13 l14 u14 l15 u15).mono ?_; rintro e w1 ⟨rfl, hy⟩; obtain ⟨d, rfl⟩ := hy.grown; clear hy)); refine ⟨_, Ext.refl _, (by repeat (first | (with_reducible exact Ext.refl _) | (with_reducible refine Ext.undrew ?_) | (with_reducible refine Ext.grow ?_ _) | (with_reducible refine Ext.drew ?_) | (with_reducible refine Ext.drewN ?_ _) | (with_reducible refine Ext.alloc ?_ _) | (with_reducible assumption) | ((with_reducible refine Ext.setCell ?_ ?_ _); rotate_left; (first | exact Nat.le_refl _ | ((try dsimp only); (try simp only [World.size_alloc, grow_size, World.size_setCell]); omega))))), ?_⟩) | refine step_br ?_ ?_)
    all_goals refine step_nil ?_
    all_goals (go_wp2_with fail; go_meet; exact ⟨_, rfl, by simp [go_sem], by simp [go_sem], hid (by repeat (first | (with_reducible exact Ext.refl _) | (with_reducible refine Ext.undrew ?_) | (with_reducible refine Ext.grow ?_ _) | (with_reducible refine Ext.drew ?_) | (with_reducible refine Ext.drewN ?_ _) | (with_reducible refine Ext.alloc ?_ _) | (with_reducible assumption) | ((with_reducible refine Ext.setCell ?_ ?_ _); rotate_left; (first | exact Nat.le_refl _ | ((try dsimp only); (try simp only [World.size_alloc, grow_size, World.size_setCell]); omega))))), by simp [go_sem], by simp [go_sem], by simp [go_sem], by simp [go_sem], by simp [go_sem], by simp [go_sem], by simp [go_sem], by simp [go_sem], by simp [go_sem], by simp [go_sem], by simp [go_sem], by simp [go_sem]⟩)
  case rest =>
    obtain ⟨g, rfl, hg, hg2, hxW, e0, y0, e1, y1, e2, y2, e3, y3, e4, y4, e5, y5⟩ := hcut
    obtain ⟨k0, k1, k2, k3, k4, k5, k6, k7, k8, k9, k10, k11, k12, k13, k14, k15⟩ := (f2.out.ext hxW.out).six
    simp only [Nat.zero_add] at k0 k1 k2 k3 k4 k5 k6 k7 k8 k9 k10 k11 k12 k13 k14 k15
    have g0 := (hxW.out.cells w.heap.size 0 hq).trans c0
    have v0 := (hxW.out.frozens w.heap.size 0 hq).trans z0
    have g1 := (hxW.out.cells w.heap.size 1 hq).trans c1
    have v1 := (hxW.out.frozens w.heap.size 1 hq).trans z1
    have g2 := (hxW.out.cells w.heap.size 2 hq).trans c2
    have v2 := (hxW.out.frozens w.heap.size 2 hq).trans z2
    have g3 := (hxW.out.cells w.heap.size 3 hq).trans c3
    have v3 := (hxW.out.frozens w.heap.size 3 hq).trans z3
    have g4 := (hxW.out.cells w.heap.size 4 hq).trans c4
    have v4 := (hxW.out.frozens w.heap.size 4 hq).trans z4
    have g5 := (hxW.out.cells w.heap.size 5 hq).trans c5
    have v5 := (hxW.out.frozens w.heap.size 5 hq).trans z5
    have hx : Ext w wc := Ext.trans f1.out hxW.out
    have hqc : w.heap.size < wc.heap.size := Nat.lt_of_lt_of_le hq hxW.out.size
    have hqc1 : w.heap.size + 1 < wc.heap.size := Nat.lt_of_lt_of_le hq1 hxW.out.size
    have hn1 : ¬ g = w.heap.size := by omega
    have hn2 : ¬ w.heap.size = g := by omega
    have hn3 : ¬ g = w.heap.size + 1 := by omega
    have hn4 : ¬ w.heap.size + 1 = g := by omega
    have hwg : w.heap.size ≤ g := by omega
    clear c0 c1 c2 c3 c4 c5 z0 z1 z2 z3 z4 z5 f1 f2 hxW a13 hq hq1 hg
    (cases tag)
    any_goals (cases WH)
    any_goals (cases TG)
    all_goals go_wp2_with (first | (go_at_call 79; refine (whole_ _ _ _ _ _ _ _ _ _ _ _ _ _ _ _ _ _).mono ?_; rintro e w1 ⟨rfl, hy⟩; obtain ⟨d, rfl⟩ := hy.grown; clear hy) | (go_at_call 80; refine (taggable_ _ _ _ _ _ _ _).mono ?_; rintro e w1 ⟨rfl, hy⟩; obtain ⟨d, rfl⟩ := hy.grown; clear hy))
    all_goals exact bodyPost_ret (v := .tuple #[.agg #[.bool _, .int .i64 (num4 x4 x5 x6 x7), .int .i64 (num4 x8 x9 x10 x11), .int .i64 (num4 x0 x1 x2 x3), .int .i64 (x13 % 128), .int .i64 x15], .bool true]) (by simp [results, Try.results61, go_sem, hqc, g0, g1, g2, g3, g4, g5]) rfl ⟨rfl, (by repeat (first | (with_reducible exact Ext.refl _) | (with_reducible refine Ext.undrew ?_) | (with_reducible refine Ext.grow ?_ _) | (with_reducible refine Ext.drew ?_) | (with_reducible refine Ext.drewN ?_ _) | (with_reducible refine Ext.alloc ?_ _) | (with_reducible assumption) | ((with_reducible refine Ext.setCell ?_ ?_ _); rotate_left; (first | exact Nat.le_refl _ | ((try dsimp only); (try simp only [World.size_alloc, grow_size, World.size_setCell]); omega)))))⟩

end Go.Proofs.Ythamfkbopjagdaa
