/- Layer 3: rows of bytes. -/
import Derived.Test.YtgpeabbbeidhpaaBytes
import Derived.Test.YtgpeabbbeidhpaaCap
namespace Go.Proofs.Ytgpeabbbeidhpaa
set_option linter.unusedSimpArgs false
set_option linter.unusedVariables false
open Go.RowKit


def four (n : Int) : List Int := [n / 16777216 % 256, n / 65536 % 256, n / 256 % 256, n % 256]
theorem four_length (n : Int) : (four n).length = 4 := rfl
def rowB (l : List Int) : List Int := l.flatMap four
theorem rowB_length : ∀ l : List Int, (rowB l).length = 4 * l.length
  | [] => rfl
  | z :: l => by
    have := rowB_length l
    simp only [rowB, List.flatMap_cons, List.length_append, four_length, List.length_cons] at this ⊢
    omega
theorem rowB_snoc (l : List Int) {k : Nat} (hk : k < l.length) : rowB (l.take (k + 1)) = rowB (l.take k) ++ four l[k] := by
  unfold rowB
  rw [List.take_succ_eq_append_getElem hk, List.flatMap_append, List.flatMap_singleton]
def bytesC (c : Cap) : List Int := rowB [c.at_, c.base, c.top] ++ [0, c.perms % 256, 0, c.type % 256]
theorem bytesC_length (c : Cap) : (bytesC c).length = 16 := rfl
theorem OwnB.more {w : World} {base : Nat} {v : Value} {l m : List Int} (h : w.ownsRow base 5 1 v (l.length + m.length) (bvals l ++ bvals m)) : OwnB w base v (l ++ m) := by
  unfold OwnB
  rw [List.length_append, bvals_append]
  exact h
theorem Ext.owned {a w w' : World} {e : TypeId} {size n : Nat} {v : Value} {xs : List Value} (h : Ext a w) (hown : w.ownsRow a.heap.size e size v n xs) (hg : w.grownBy w' v.ownBlock) : Ext a w' :=
  Below.grown h hg h.size fun k hk => (hown.lt k hk).1
theorem OwnB.keptExt {w w' : World} {base : Nat} {v : Value} {l : List Int} (h : OwnB w base v l) (x : Ext w w') : OwnB w' base v l := by
  refine ⟨h.1, ?_⟩
  rcases h.2 with h0 | ⟨g, cap, cur, hv, hb, hg, r⟩
  · exact .inl h0
  · exact .inr ⟨g, cap, cur, hv, hb, by rw [x.block g (Array.getElem?_eq_some_iff.1 hg).1]; exact hg, r⟩
set_option maxHeartbeats 2000000 in
theorem row_ (A : Option Addr) (ca : Nat) (zs : List Int) (w : World) (hA : SlAt w A (zs.map (Value.int .i64))) (hn : zs.length ≤ 1000) :
    Calls Try.prog 50 #[.slice A zs.length ca] w fun e w' => ∃ v, e = .returned v ∧ OwnB w' w.heap.size v (rowB zs) ∧ Ext w w' := by
  obtain ⟨i0, hi, hz0, hz1, hz2⟩ := info_parts info_u8
  have HI := hid hi
  have HA := hid hA
  clear hA
  go_enter Try.func50, Try.ntmps50
  go_wp2
  go_loopw [3, 8] (fun v i wr => ∃ k : Nat, k ≤ zs.length ∧ i = .int .i64 k ∧ Hid (OwnB wr w.heap.size v (rowB (zs.take k))) ∧ Ext w wr) (fun _ i _ => zs.length - (intOf i).toNat)
  case atStart => exact ⟨0, Nat.zero_le _, rfl, hid (OwnB.nil _ _), (by repeat (first | (with_reducible exact Ext.refl _) | (with_reducible refine Ext.undrew ?_) | (with_reducible refine Ext.grow ?_ _) | (with_reducible refine Ext.drew ?_) | (with_reducible refine Ext.drewN ?_ _) | (with_reducible refine Ext.alloc ?_ _) | (with_reducible assumption) | ((with_reducible refine Ext.setCell ?_ ?_ _); rotate_left; (first | exact Nat.le_refl _ | ((try dsimp only); (try simp only [World.size_alloc, grow_size, World.size_setCell]); omega)))))⟩
  case round =>
    obtain ⟨k, hk, rfl, hown, hx⟩ := hrel
    by_cases hlt : k < zs.length
    · obtain ⟨b, off, rfl, hb, hc⟩ := HA.out (by simpa using (by omega : 0 < zs.length))
      have hck : wr.cell? ⟨b, off + k, none⟩ = some (.int .i64 zs[k]) := by
        rw [hx.cells b _ hb, hc k (by simpa using hlt)]
        simp
      have hlen := rowB_length (zs.take k)
      rw [List.length_take, Nat.min_eq_left hk] at hlen
      have HL := hid hlen
      clear hlen hc
      have hk0 : (0 : Int) ≤ (k : Int) := by omega
      have hk1 : (k : Int) < (zs.length : Int) := by omega
      go_wp2_with (at_builtin; refine wpList_append_own _ rfl _ _ 29 rfl w.heap.size 5 i0 _ 1 1 Try.underlying29 hi hz0 hz1 hz2 rfl (by decide) _ _ _ rfl (World.ownsRow.alloc hown.out _) ⟨wr.heap.size, 0, none⟩ 4 4 (bvals (four zs[k])) rfl rfl ?c1 (bvals_one _) ?c3 ?c4 ?c5 ?_)
      case c1 => exact fun j u hj => World.news_of_block (heap_alloc_new wr _) j u (by simpa [bvals, four] using hj)
      case c3 => have := HL.out; unfold maxLen; omega
      case c4 => have := HL.out; omega
      case c5 => have := hx.size; simp [go_sem]; omega
      intro v' w1 hown1 hgrow _
      have hown2 := hid (OwnB.more hown1)
      rw [← rowB_snoc zs hlt] at hown2
      have hx1 := hid (Ext.owned (Ext.alloc hx _) (World.ownsRow.alloc hown.out _) hgrow)
      clear hgrow hown hown1
      go_wp2
      go_roundw
      case rel => exact ⟨k + 1, by omega, by go_num, hown2, hx1.out⟩
      case measure => simp [intOf]; omega
    · have hown2 := hown.out
      rw [List.take_of_length_le (by omega)] at hown2
      have hown2 := hid hown2
      clear hown
      go_wp2
      go_ret
      exact ⟨_, rfl, hown2.out, (by repeat (first | (with_reducible exact Ext.refl _) | (with_reducible refine Ext.undrew ?_) | (with_reducible refine Ext.grow ?_ _) | (with_reducible refine Ext.drew ?_) | (with_reducible refine Ext.drewN ?_ _) | (with_reducible refine Ext.alloc ?_ _) | (with_reducible assumption) | ((with_reducible refine Ext.setCell ?_ ?_ _); rotate_left; (first | exact Nat.le_refl _ | ((try dsimp only); (try simp only [World.size_alloc, grow_size, World.size_setCell]); omega)))))⟩

set_option maxHeartbeats 2000000 in
theorem rfour (v : Value) (base : Nat) (l : List Int) (n : Int) (w : World) (hv : OwnB w base v l) (hn : l.length ≤ 1000) (hb : base ≤ w.heap.size) :
    Calls Try.prog 47 #[v, .int .i64 n] w fun e w' => ∃ v', e = .returned v' ∧ OwnB w' base v' (l ++ four n) ∧ Below base w w' := by
  obtain ⟨i0, hi, hz0, hz1, hz2⟩ := info_parts info_u8
  have HI := hid hi
  have hv := hid hv
  go_enter Try.func47, Try.ntmps47
  go_wp2_with (at_builtin; refine wpList_append_own _ rfl _ _ 29 rfl base 5 i0 _ 1 1 Try.underlying29 hi hz0 hz1 hz2 rfl (by decide) _ _ _ rfl (World.ownsRow.alloc hv.out _) ⟨w.heap.size, 0, none⟩ 4 4 (bvals (four n)) rfl rfl ?c1 (bvals_one _) ?c3 ?c4 ?c5 ?_)
  case c1 => exact fun j u hj => World.news_of_block (heap_alloc_new w _) j u (by simpa [bvals, four] using hj)
  case c3 => unfold maxLen; omega
  case c4 => omega
  case c5 => simp [go_sem]; omega
  intro v' w1 hown1 hgrow _
  have hown2 := hid (OwnB.more hown1)
  have hx1 : Hid (Below base w w1) := hid (Below.grown ((Below.refl base w).alloc hb _) hgrow (by simp; omega) (fun k hk => (World.ownsRow.lt (w := w) hv.out k hk).1))
  clear hgrow hown1
  go_wp2
  go_ret
  exact ⟨_, rfl, hown2.out, hx1.out⟩


end Go.Proofs.Ytgpeabbbeidhpaa
