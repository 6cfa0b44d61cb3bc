/- Layer 7: Load. -/
import Derived.Test.YtgpeabbbeidhpaaTagC
namespace Go.Proofs.Ytgpeabbbeidhpaa
set_option linter.unusedSimpArgs false
set_option linter.unusedVariables false
open Go.RowKit

/-- A row of bytes, as numbers tell them. -/
structure Buf (w : World) (qb m : Nat) (f : Nat → Int) : Prop where
  lt : qb < w.heap.size
  at_ : ∀ j, j < m → w.cell? ⟨qb, j, none⟩ = some (.int .u8 (f j))
  fz : ∀ x, w.frozen? ⟨qb, x, none⟩ = false
theorem Buf.only {S : Nat → Prop} {w w' : World} {qb m : Nat} {f : Nat → Int} (h : Buf w qb m f) (x : Only S w w') (hs : ¬ S qb) : Buf w' qb m f :=
  ⟨Nat.lt_of_lt_of_le h.lt x.size, fun j hj => (x.cells qb _ h.lt hs).trans (h.at_ j hj), fun y => (x.frozens qb _ h.lt hs).trans (h.fz y)⟩
theorem Buf.ext {w w' : World} {qb m : Nat} {f : Nat → Int} (h : Buf w qb m f) (x : Ext w w') : Buf w' qb m f := h.only (Only.ofExt (S := fun _ => False) x) id
theorem Buf.congr {w : World} {qb m : Nat} {f f' : Nat → Int} (h : Buf w qb m f) (e : ∀ j, j < m → f' j = f j) : Buf w qb m f' := ⟨h.lt, fun j hj => by rw [e j hj]; exact h.at_ j hj, h.fz⟩
theorem Buf.lay {w : World} {qb m : Nat} {f : Nat → Int} (h : Buf w qb m f) (d : Nat) (ls : List Int) (hd : d + ls.length ≤ m) : Buf (w.setCells qb d (bvals ls)) qb m (fun j => if d ≤ j ∧ j < d + ls.length then ls.getD (j - d) 0 else f j) := by
  have hcs : ∀ j, j < (bvals ls).length → (w.cell? ⟨qb, d + j, none⟩).isSome = true := fun j hj => by
    rw [bvals_length] at hj
    rw [h.at_ (d + j) (by omega)]
    rfl
  refine ⟨by rw [size_setCells]; exact h.lt, fun j hj => ?_, fun y => by rw [frozen_setCells]; exact h.fz y⟩
  rw [cell_setCells qb (bvals ls) d w qb j hcs, bvals_length]
  by_cases c : d ≤ j ∧ j < d + ls.length
  · rw [if_pos ⟨rfl, c.1, c.2⟩, if_pos c, bvals_at _ _ (by omega)]
  · rw [if_neg (fun e => c e.2), if_neg c]
    exact h.at_ j hj
/-- The bytes from somewhere on. -/
def bytesAt (B : Nat → Int) (a m : Nat) : List Int := (List.range m).map fun j => B (a + j)
theorem bytesAt_length (B : Nat → Int) (a m : Nat) : (bytesAt B a m).length = m := by simp [bytesAt]
theorem bytesAt_get (B : Nat → Int) (a m j : Nat) (h : j < (bytesAt B a m).length) : (bytesAt B a m)[j] = B (a + j) := by simp [bytesAt]
theorem bytesAt_byteL {B : Nat → Int} (h : ∀ y, 0 ≤ B y ∧ B y ≤ 255) (a m : Nat) : byteL (bytesAt B a m) := fun y hy => by
  obtain ⟨j, _, rfl⟩ := List.mem_map.1 hy
  exact h _
theorem made_bytes {w : World} {base g m : Nat} (h : w.ownsRow base 5 1 (.slice (some ⟨g, 0, none⟩) m m) m (madeCells #[Value.int .u8 0] m).toList) : Buf w g m (fun _ => 0) := by
  rcases h.2 with ⟨h0, _⟩ | ⟨g', cap, cur, hv, _, hg, _, _, hs, ht⟩
  · injection h0 with e; cases e
  · injection hv with e1 e2 e3
    injection e1 with e1
    injection e1 with e1
    subst e1
    refine ⟨(Array.getElem?_eq_some_iff.1 hg).1, fun k hk => ?_, fun x => by simp [World.frozen?, hg]⟩
    rw [h.cellAt k (by omega)]
    rw [toList_madeCells_one]
    simp [hk]
set_option maxRecDepth 100000 in
set_option maxHeartbeats 4000000 in
theorem tload_no (q g n : Nat) (B : Nat → Int) (T D : Nat → Bool) (w : World) (h : Mm w q g n B T D) (x k : Int) (hc : ¬ spanP n x k) : Calls Try.prog 18 #[.pointer (some ⟨q, 0, none⟩), .int .i64 x, .int .i64 k] w fun e w' => e = .returned (.tuple #[.slice none 0 0, .bool false]) ∧ w = w' := by
  have HH := hid h
  have HC := hid hc
  clear h hc
  go_enter Try.func18, Try.ntmps18
  go_wp2_with (go_at_call 41; refine (tspans_no q g n B T D _ HH.out x k HC.out).mono ?_; rintro e w1 ⟨rfl, rfl⟩)
  refine bodyPost_ret (v := .tuple #[.slice none 0 0, .bool false]) (by simp [results, Try.results18, go_sem]) rfl ?_
  exact ⟨rfl, rfl⟩
set_option maxRecDepth 100000 in
set_option maxHeartbeats 4000000 in
theorem tload_yes (q g n : Nat) (B : Nat → Int) (T D : Nat → Bool) (w : World) (h : Mm w q g n B T D) (a m : Nat) (hfit : a + m ≤ 256 * n) : Calls Try.prog 18 #[.pointer (some ⟨q, 0, none⟩), .int .i64 (a : Int), .int .i64 (m : Int)] w fun e w' => ∃ qb, e = .returned (.tuple #[.slice (some ⟨qb, 0, none⟩) m m, .bool true]) ∧ Hid (RdB w' (some ⟨qb, 0, none⟩) (bytesAt B a m)) ∧ Hid (Ext w w') ∧ Hid (w.heap.size ≤ qb ∧ qb < w'.heap.size) := by
  obtain ⟨i0, hi0, hz0, hz1, hz2⟩ := info_parts info_u8
  have HS : Hid (spanP n (a : Int) (m : Int)) := hid ⟨by omega, by omega, by omega, by omega⟩
  have HH := hid h
  have hbd := h.bd
  clear h
  have hm0 : (0 : Int) ≤ (m : Int) := by omega
  go_enter Try.func18, Try.ntmps18
  go_upto_region 4 with (first | (go_at_call 41; refine (tspans_yes q g n B T D _ HH.out (a : Int) (m : Int) HS.out.1 HS.out.2.1 HS.out.2.2.1 HS.out.2.2.2).mono ?_; rintro e w1 ⟨rfl, rfl⟩) | (at_make; refine wpList_make_full _ rfl _ _ 29 rfl w.heap.size 5 i0 _ 1 Try.underlying29 hi0 hz0 hz1 .i64 .i64 _ _ m rfl rfl rfl rfl (by rw [hz2]; omega) (by unfold maxLen; omega) (Nat.le_refl _) ?_; intro w2 hown hg))
  have hx1 : Ext w w2 := ⟨hg.os, hg.tape, hg.output, hg.size, fun k hk => hg.block k hk (by simp)⟩
  rw [Nat.mul_one] at hown
  have HBF := hid (made_bytes hown)
  have HE2 := hid hx1
  have HM2 := hid (HH.out.ext hx1)
  have hqw : w.heap.size ≤ w.heap.size := Nat.le_refl _
  have HQB : Hid (∃ qb, w.heap.size = qb) := hid ⟨_, rfl⟩
  clear hown hg hx1
  obtain ⟨qb, hqb⟩ := HQB.out
  rw [hqb] at HBF ⊢
  have hqg : ¬ qb = g := by have := HH.out.ltg; omega
  have hgq : ¬ g = qb := fun e => hqg e.symm
  have HQ9 := hid hqb
  clear hqw HQB hqb
  go_wp2
  go_loopw [9] (fun i wr => ∃ d : Nat, d ≤ m ∧ i = .int .i64 d ∧ Hid (Mm wr q g n B T D) ∧ Hid (Buf wr qb m (fun j => if j < d then B (a + j) else 0)) ∧ Hid (Ext w wr)) (fun i _ => m - (intOf i).toNat)
  case atStart => exact ⟨0, Nat.zero_le _, rfl, HM2, hid (HBF.out.congr (fun j _ => by rw [if_neg (by omega)])), HE2⟩
  case round =>
    clear HM2 HBF HE2
    obtain ⟨d, hd, rfl, HM, HBF, HE⟩ := hrel
    have hd0 : (0 : Int) ≤ (d : Int) := by omega
    by_cases hlt : d < m
    · have hd1 : (d : Int) < (m : Int) := by omega
      obtain ⟨p, hp⟩ : ∃ p, (a + d) / 256 = p := ⟨_, rfl⟩
      obtain ⟨i, hi⟩ : ∃ i, (a + d) % 256 / 16 = i := ⟨_, rfl⟩
      obtain ⟨off, hoff⟩ : ∃ off, (a + d) % 16 = off := ⟨_, rfl⟩
      have hpn : p < n := by omega
      have hi16 : i < 16 := by omega
      have ho16 : off < 16 := by omega
      have HP : Hid (((a : Int) + (d : Int)) / 256 = (p : Int)) := hid (by omega)
      have HI : Hid (((a : Int) + (d : Int)) % 256 / 16 = (i : Int)) := hid (by omega)
      have HX : Hid (a + d = 256 * p + 16 * i + off) := hid (by omega)
      have HOF : Hid (((a : Int) + (d : Int)) % 16 = (off : Int)) := hid (by omega)
      clear hp hi hoff
      have hi0 : (0 : Int) ≤ (i : Int) := by omega
      have hi1 : (i : Int) < 16 := by omega
      go_upto_region 7 with (go_at_call 37; refine (tplace_ q g n _ _ _ _ HM.out ((a : Int) + (d : Int)) p i (by omega) HP.out HI.out hpn).mono ?_; rintro e w1 ⟨rfl, rfl⟩)
      have hof := HOF.out
      have ho0 : (0 : Int) ≤ (off : Int) := by omega
      have ho1 : (off : Int) ≤ 16 := by omega
      have hdl : (d : Int) ≤ (m : Int) := by omega
      have hdc : ¬ (m : Int) = (d : Int) := by omega
      have hdcn : ¬ m = d := by omega
      have hocn : ¬ 16 = off := by omega
      have hoci : ¬ (16 : Int) = (off : Int) := by omega
      refine wp_region_turn (q := qb) (.rd 0 (.rd 1 (.rd 2 (.rd 3 (.rd 4 (.rd 5 (.rd 6 (.rd 7 (.rd 8 (.rd 9 (.rd 10 (.rd 11 (.rd 12 (.rd 13 (.ac 14 (.rd 15 (.rd 16 .done))))))))))))))))) (by kernel_rfl) (by kernel_rfl) (fun _ _ d _ _ h => by cases d <;> exact h) (by simp only [Ord.map, nthOp, List.append]; rfl) ?_
      intro d0
      repeat (refine turn_read (by rfl) (fun K hK => ?_); go_big_quiet_op; refine hK _ ?_; clear hK K)
      have hx0 : Ext wr (Go.Proofs.Ytgpeabbbeidhpaa.grow wr d0) := Ext.grow (Ext.refl _) d0
      have HM2 := hid (HM.out.ext hx0)
      have HB2 := hid (HBF.out.ext hx0)
      have HE2 := hid (HE.out.trans hx0)
      clear HM HBF HE hx0
      generalize Go.Proofs.Ytgpeabbbeidhpaa.grow wr d0 = W at HM2 HB2 HE2 ⊢
      obtain ⟨cnt, hcnt⟩ : ∃ c, Nat.min (16 - off) (m - d) = c := ⟨_, rfl⟩
      have hcnt0 : 0 < cnt := by rw [← hcnt]; exact Nat.lt_min.2 ⟨by omega, by omega⟩
      have hcnt1 : cnt ≤ m - d := by rw [← hcnt]; exact Nat.min_le_right _ _
      have hcnt2 : cnt ≤ 16 - off := by rw [← hcnt]; exact Nat.min_le_left _ _
      obtain ⟨ls, hls⟩ : ∃ x, bytesAt B (a + d) cnt = x := ⟨_, rfl⟩
      have hlsl : ls.length = cnt := by rw [← hls, bytesAt_length]
      have hlsat : ∀ j, j < cnt → ls.getD j 0 = B (a + d + j) := fun j hj => by
        rw [← hls, List.getD_eq_getElem?_getD, List.getElem?_eq_getElem (by rw [bytesAt_length]; exact hj), Option.getD_some, bytesAt_get]
      have HB3 := hid ((HB2.out.lay d ls (by omega)).congr (f' := fun j => if j < d + cnt then B (a + j) else 0) (fun j hj => by
        by_cases c : d ≤ j ∧ j < d + ls.length
        · rw [if_pos c, if_pos (by omega), hlsat _ (by omega)]
          congr 1
          omega
        · rw [if_neg c]
          by_cases c2 : j < d
          · rw [if_pos c2, if_pos (by omega)]
          · rw [if_neg c2, if_neg (by omega)]))
      have hcopy : (Builtin.copy_ #[29, 29] 3 #[.slice (some ⟨qb, d, none⟩) (m - d) (m - d), .slice (some ⟨g, p * 273 + i * 16 + off, none⟩) (16 - off) (16 - off)]).run Try.prog W = .ok (goInt cnt) (W.setCells qb d (bvals ls)) := by
        have := run_copy_cells (P := Try.prog) W 29 29 3 5 qb d (m - d) (m - d) ⟨g, p * 273 + i * 16 + off, none⟩ (16 - off) (16 - off) (bvals ls) Try.underlying29 (by kernel_rfl) (by rw [bvals_length, hlsl, hcnt]) (fun j v hj => by
          have hjl : j < cnt := by have := (List.getElem?_eq_some_iff.1 hj).1; rw [bvals_length, hlsl] at this; exact this
          rw [bvals_at _ _ (by omega), hlsat j hjl] at hj
          rw [Addr.add_lit, ← Option.some.inj hj, show p * 273 + i * 16 + off + j = p * 273 + (16 * i + off + j) by omega, HM2.out.by_ p (16 * i + off + j) hpn (by omega)]
          have := HX.out
          rw [show a + d + j = 256 * p + (16 * i + off + j) by omega]) (fun j hj => by
          rw [bvals_length] at hj
          rw [HB2.out.at_ (d + j) (by omega)]
          rfl) (fun j hj => HB2.out.fz _) (bvals_one ls)
        rwa [bvals_length, hlsl] at this
      have HO4 : Hid (Only (· = qb) W (W.setCells qb d (bvals ls))) := hid (Only.setCells (S := (· = qb)) (.inl rfl) _ _ (Only.refl _ _))
      have HM4 := hid (HM2.out.only HO4.out (by have := HM2.out.ltq; have := HH.out.ltq; have := HQ9.out; omega) (fun e => hgq e))
      have HE4 := hid (Ext.only HE2.out HO4.out (by rintro i rfl; have := HQ9.out; omega))
      refine turn_act (by rfl) (fun K hK => ?_)
      refine Lib.wp_copy_run _ _ _ 29 29 rfl _ _ rfl rfl hcopy ?_
      refine hK _ _ ⟨_, Only.refl _ _, HO4.out, ?_⟩
      clear hK K
      simp only [Act.put, List.setIfInBounds_toArray, List.set_cons_zero, List.set_cons_succ, goInt_nat]
      have hcb : (cnt : Int) ≤ 16 := by omega
      have hdb : (d : Int) ≤ 16777216 := by omega
      clear HM2 HE2 HO4 hcopy hcnt hls hlsl hlsat HB2
      generalize W.setCells qb d (bvals ls) = W9 at HM4 HB3 HE4 ⊢
      repeat (refine turn_read (by rfl) (fun K hK => ?_); go_big_quiet_op; refine hK _ ?_; clear hK K)
      refine turn_nil ?_
      go_wp2
      go_roundw
      case rel => exact ⟨d + cnt, by omega, by go_num, HM4, HB3, HE4⟩
      case measure => simp [intOf]; omega
    · obtain rfl : d = m := by omega
      have hd1 : ¬ (d : Int) < (d : Int) := by omega
      go_wp2
      refine bodyPost_ret (v := .tuple #[.slice (some ⟨qb, 0, none⟩) d d, .bool true]) (by simp [results, Try.results18, go_sem]) rfl ?_
      exact ⟨qb, rfl, hid (fun _ => ⟨qb, 0, rfl, HBF.out.lt, fun j hj => by rw [bytesAt_length] at hj; rw [Nat.zero_add, HBF.out.at_ j hj, if_pos hj, bytesAt_get]⟩), HE, hid ⟨by have := HQ9.out; omega, HBF.out.lt⟩⟩

end Go.Proofs.Ytgpeabbbeidhpaa
