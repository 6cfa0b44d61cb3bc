/- Layer 7: LoadCap, StoreCap. -/
import Derived.Test.YtgpeabbbeidhpaaTagD
import Derived.Test.YtgpeabbbeidhpaaEncF
import Derived.Test.YtgpeabbbeidhpaaEncB
namespace Go.Proofs.Ytgpeabbbeidhpaa
set_option linter.unusedSimpArgs false
set_option linter.unusedVariables false
open Go.RowKit

theorem only_ag (w : World) (A B : Obj) (d0 d5 : Delta) : Only (fun x => x = w.heap.size) (Go.Proofs.Ytgpeabbbeidhpaa.grow (w.alloc A) d0) (Go.Proofs.Ytgpeabbbeidhpaa.grow (Go.Proofs.Ytgpeabbbeidhpaa.grow (w.alloc B) d0) d5) := by
  refine ⟨rfl, rfl, rfl, by simp only [grow_size, World.size_alloc]; omega, fun k hk hs => ?_⟩
  have hk' : k < (Go.Proofs.Ytgpeabbbeidhpaa.grow (w.alloc B) d0).heap.size := by simpa only [grow_size, World.size_alloc] using hk
  rw [grow_old _ _ _ hk', grow_heap, grow_heap]
  simp only [World.size_alloc]
  split
  · rename_i h
    have : k < w.heap.size := by have := hs; omega
    rw [heap_alloc_old w B this, heap_alloc_old w A this]
  · rfl
set_option maxRecDepth 100000 in
set_option maxHeartbeats 4000000 in
theorem tget_ (b o ca : Nat) (L : List Int) (tag : Bool) (w : World) (hL : L.length = 16) (hl : byteL L) (hr : RdB w (some ⟨b, o, none⟩) L) (hca : 16 ≤ ca) (hcm : ca ≤ maxLen) : Calls Try.prog 42 #[.slice (some ⟨b, o, none⟩) 16 ca, .bool tag] w fun e w' => e = .returned (.tuple #[.agg #[.bool (getL L tag).tag, .int .i64 (getL L tag).base, .int .i64 (getL L tag).top, .int .i64 (getL L tag).at_, .int .i64 (getL L tag).perms, .int .i64 (getL L tag).type], .bool true]) ∧ Ext w w' := by
  obtain ⟨x0, x1, x2, x3, x4, x5, x6, x7, x8, x9, x10, x11, x12, x13, x14, x15, rfl⟩ := sixteen hL
  exact get_yes b o ca x0 x1 x2 x3 x4 x5 x6 x7 x8 x9 x10 x11 x12 x13 x14 x15 tag w hr hca hcm (hl x0 (by simp)).1 (hl x0 (by simp)).2 (hl x1 (by simp)).1 (hl x1 (by simp)).2 (hl x2 (by simp)).1 (hl x2 (by simp)).2 (hl x3 (by simp)).1 (hl x3 (by simp)).2 (hl x4 (by simp)).1 (hl x4 (by simp)).2 (hl x5 (by simp)).1 (hl x5 (by simp)).2 (hl x6 (by simp)).1 (hl x6 (by simp)).2 (hl x7 (by simp)).1 (hl x7 (by simp)).2 (hl x8 (by simp)).1 (hl x8 (by simp)).2 (hl x9 (by simp)).1 (hl x9 (by simp)).2 (hl x10 (by simp)).1 (hl x10 (by simp)).2 (hl x11 (by simp)).1 (hl x11 (by simp)).2 (hl x12 (by simp)).1 (hl x12 (by simp)).2 (hl x13 (by simp)).1 (hl x13 (by simp)).2 (hl x14 (by simp)).1 (hl x14 (by simp)).2 (hl x15 (by simp)).1 (hl x15 (by simp)).2
set_option maxRecDepth 100000 in
set_option maxHeartbeats 4000000 in
theorem tlc_no (q g n : Nat) (B : Nat → Int) (T D : Nat → Bool) (w : World) (h : Mm w q g n B T D) (x : Int) (hc : ¬ placeP n x) : Calls Try.prog 20 #[.pointer (some ⟨q, 0, none⟩), .int .i64 x] w fun e w' => e = .returned (.tuple #[.agg #[.bool false, .int .i64 0, .int .i64 0, .int .i64 0, .int .i64 0, .int .i64 0], .bool false]) ∧ Ext w w' := by
  have HH := hid h
  have HC := hid hc
  have hlq := h.ltq
  clear h hc
  go_enter Try.func20, Try.ntmps20
  go_wp2_with (go_at_call 35; refine (tbegins_no q g n B T D _ (HH.out.ext (by repeat (first | (with_reducible exact Ext.refl _) | (with_reducible refine Ext.undrew ?_) | (with_reducible refine Ext.grow ?_ _) | (with_reducible refine Ext.drew ?_) | (with_reducible refine Ext.drewN ?_ _) | (with_reducible refine Ext.alloc ?_ _) | (with_reducible assumption) | ((with_reducible refine Ext.setCell ?_ ?_ _); rotate_left; (first | exact Nat.le_refl _ | ((try dsimp only); (try simp only [World.size_alloc, grow_size, World.size_setCell]); omega)))))) x HC.out).mono ?_; rintro e w1 ⟨rfl, rfl⟩)
  refine bodyPost_ret (v := .tuple #[.agg #[.bool false, .int .i64 0, .int .i64 0, .int .i64 0, .int .i64 0, .int .i64 0], .bool false]) (by simp [results, Try.results20, go_sem]) rfl ?_
  exact ⟨rfl, (by repeat (first | (with_reducible exact Ext.refl _) | (with_reducible refine Ext.undrew ?_) | (with_reducible refine Ext.grow ?_ _) | (with_reducible refine Ext.drew ?_) | (with_reducible refine Ext.drewN ?_ _) | (with_reducible refine Ext.alloc ?_ _) | (with_reducible assumption) | ((with_reducible refine Ext.setCell ?_ ?_ _); rotate_left; (first | exact Nat.le_refl _ | ((try dsimp only); (try simp only [World.size_alloc, grow_size, World.size_setCell]); omega)))))⟩
set_option maxRecDepth 100000 in
set_option maxHeartbeats 4000000 in
theorem tlc_yes (q g n : Nat) (B : Nat → Int) (T D : Nat → Bool) (w : World) (h : Mm w q g n B T D) (x : Int) (p i : Nat) (hpn : p < n) (hi16 : i < 16) (hx : x = 256 * (p : Int) + 16 * (i : Int)) : Calls Try.prog 20 #[.pointer (some ⟨q, 0, none⟩), .int .i64 x] w fun e w' => e = .returned (.tuple #[.agg #[.bool (getL (bytesAt B (256 * p + 16 * i) 16) (T (16 * p + i))).tag, .int .i64 (getL (bytesAt B (256 * p + 16 * i) 16) (T (16 * p + i))).base, .int .i64 (getL (bytesAt B (256 * p + 16 * i) 16) (T (16 * p + i))).top, .int .i64 (getL (bytesAt B (256 * p + 16 * i) 16) (T (16 * p + i))).at_, .int .i64 (getL (bytesAt B (256 * p + 16 * i) 16) (T (16 * p + i))).perms, .int .i64 (getL (bytesAt B (256 * p + 16 * i) 16) (T (16 * p + i))).type], .bool true]) ∧ Ext w w' := by
  have HH := hid h
  have htg := h.tg p i hpn hi16
  have H0 : Hid (0 ≤ x) := hid (by omega)
  have HP : Hid (x / 256 = (p : Int)) := hid (by omega)
  have HI : Hid (x % 256 / 16 = (i : Int)) := hid (by omega)
  have HC : Hid (placeP n x) := hid ⟨by omega, by omega, by omega⟩
  have hi0 : (0 : Int) ≤ (i : Int) := by omega
  have hi1 : (i : Int) < 16 := by omega
  have hlg := h.ltg
  have hbd := h.bd
  have HR : Hid (RdB w (some ⟨g, p * 273 + i * 16, none⟩) (bytesAt B (256 * p + 16 * i) 16)) := hid (fun _ => ⟨g, p * 273 + i * 16, rfl, h.ltg, fun j hj => by
    rw [bytesAt_length] at hj
    rw [bytesAt_get, show p * 273 + i * 16 + j = p * 273 + (16 * i + j) by omega, h.by_ p (16 * i + j) hpn (by omega)]
    congr 3
    omega⟩)
  have HBL := hid (bytesAt_byteL h.rg (256 * p + 16 * i) 16)
  have HLE : Hid ((bytesAt B (256 * p + 16 * i) 16).length = 16) := hid (bytesAt_length _ _ _)
  clear h hx
  generalize bytesAt B (256 * p + 16 * i) 16 = L at HR HBL HLE ⊢
  generalize T (16 * p + i) = tg at htg ⊢
  go_enter Try.func20, Try.ntmps20
  go_upto_region 4 with (first | (go_at_call 35; refine (tbegins_yes q g n B T D _ (HH.out.ext (by repeat (first | (with_reducible exact Ext.refl _) | (with_reducible refine Ext.undrew ?_) | (with_reducible refine Ext.grow ?_ _) | (with_reducible refine Ext.drew ?_) | (with_reducible refine Ext.drewN ?_ _) | (with_reducible refine Ext.alloc ?_ _) | (with_reducible assumption) | ((with_reducible refine Ext.setCell ?_ ?_ _); rotate_left; (first | exact Nat.le_refl _ | ((try dsimp only); (try simp only [World.size_alloc, grow_size, World.size_setCell]); omega)))))) x HC.out).mono ?_; rintro e w1 ⟨rfl, rfl⟩) | (go_at_call 37; refine (tplace_ q g n B T D _ (HH.out.ext (by repeat (first | (with_reducible exact Ext.refl _) | (with_reducible refine Ext.undrew ?_) | (with_reducible refine Ext.grow ?_ _) | (with_reducible refine Ext.drew ?_) | (with_reducible refine Ext.drewN ?_ _) | (with_reducible refine Ext.alloc ?_ _) | (with_reducible assumption) | ((with_reducible refine Ext.setCell ?_ ?_ _); rotate_left; (first | exact Nat.le_refl _ | ((try dsimp only); (try simp only [World.size_alloc, grow_size, World.size_setCell]); omega)))))) x p i H0.out HP.out HI.out hpn).mono ?_; rintro e w1 ⟨rfl, rfl⟩))
  have hbq : ¬ g = w.heap.size := Nat.ne_of_lt hlg
  have HX : Hid (Ext w (w.alloc (.cells #[.bool false, .int .i64 0, .int .i64 0, .int .i64 0, .int .i64 0, .int .i64 0] 31))) := hid (Ext.alloc (Ext.refl _) _)
  have HR2 := hid (HR.out.ext HX.out)
  refine wp_region_turn (q := w.heap.size) (.rd 0 (.rd 1 (.rd 2 (.rd 3 (.rd 4 (.rd 5 (.rd 6 (.rd 7 (.rd 8 (.rd 9 (.rd 10 (.rd 11 (.ac 12 (.rd 13 (.rd 14 (.ac 15 (.rd 16 .done))))))))))))))))) (by kernel_rfl) (by kernel_rfl) (fun _ _ d _ _ h => by cases d <;> exact h) (by simp only [Ord.map, nthOp, List.append]; rfl) ?_
  intro d0
  repeat (refine turn_read (by rfl) (fun K hK => ?_); go_big_quiet_op; refine hK _ ?_; clear hK K)
  refine turn_act (by rfl) (fun K hK => ?_)
  go_wp2_with (go_at_call 42; refine (tget_ g (p * 273 + i * 16) 16 L tg _ HLE.out HBL.out (HR2.out.ext (Ext.grow (Ext.refl _) d0)) (Nat.le_refl _) (by unfold maxLen; omega)).mono ?_; rintro e w5 ⟨rfl, hx5⟩; obtain ⟨d5, rfl⟩ := hx5.grown)
  refine ⟨_, Only.refl _ _, Only.ofExt (Ext.grow (Ext.refl _) d5), ?_⟩
  repeat (refine turn_read (by rfl) (fun K hK => ?_); go_big_quiet_op; refine hK _ ?_; clear hK K)
  refine turn_act (by rfl) (fun K hK => ?_)
  go_wp2_with fail
  refine ⟨_, Only.refl _ _, only_ag w _ _ d0 d5, ?_⟩
  repeat (refine turn_read (by rfl) (fun K hK => ?_); go_big_quiet_op; refine hK _ ?_; clear hK K)
  refine turn_nil ?_
  go_wp2
  refine bodyPost_ret (v := .tuple #[.agg #[.bool (getL L tg).tag, .int .i64 (getL L tg).base, .int .i64 (getL L tg).top, .int .i64 (getL L tg).at_, .int .i64 (getL L tg).perms, .int .i64 (getL L tg).type], .bool true]) (by simp [results, Try.results20, go_sem]) rfl ?_
  exact ⟨rfl, (by repeat (first | (with_reducible exact Ext.refl _) | (with_reducible refine Ext.undrew ?_) | (with_reducible refine Ext.grow ?_ _) | (with_reducible refine Ext.drew ?_) | (with_reducible refine Ext.drewN ?_ _) | (with_reducible refine Ext.alloc ?_ _) | (with_reducible assumption) | ((with_reducible refine Ext.setCell ?_ ?_ _); rotate_left; (first | exact Nat.le_refl _ | ((try dsimp only); (try simp only [World.size_alloc, grow_size, World.size_setCell]); omega)))))⟩

end Go.Proofs.Ytgpeabbbeidhpaa
