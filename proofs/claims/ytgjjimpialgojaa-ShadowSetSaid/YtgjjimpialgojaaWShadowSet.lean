/- The walk of the law ShadowSet. -/
import Derived.Test.YtgjjimpialgojaaOpenS
namespace Go.Proofs.Ytgjjimpialgojaa
set_option linter.unusedSimpArgs false
set_option linter.unusedVariables false
open Go.RowKit

namespace shadowSet
set_option maxRecDepth 100000 in
set_option maxHeartbeats 4000000 in
theorem walk (A0 : Option Addr) (cap0 : Nat) (zs0 : List SOp) (a1 : Int) (w : World) (hs0 : SlAtN w A0 3 (zs0.map SOp.cells)) (hw0 : ∀ z ∈ zs0, wfS z) (w1 : (Lit.int .u16 a1).wf = true) :
    Calls Try.prog 4 #[.slice A0 zs0.length cap0, .int .u16 a1] w fun e w' => e = .returned (.bool true) ∧ Ext w w' := by
  obtain ⟨l1, u1⟩ := wfu16 w1
  clear w1
  have HS0 := hid hs0
  have HW0 := hid hw0
  clear hs0 hw0
  obtain ⟨K, hK⟩ : ∃ K : Nat, a1 % 3200 = (K : Int) := ⟨(a1 % 3200).toNat, by omega⟩
  have hKb : K < 3200 := by omega
  obtain ⟨g, hg⟩ : ∃ g, K / 16 = g := ⟨_, rfl⟩
  have hgb : g < 200 := by omega
  have hg0 : (0 : Int) ≤ (g : Int) := by omega
  have hg1 : (g : Int) < 200 := by omega
  have hKq : ((K : Int)).tdiv 16 = (g : Int) := by rw [Int.tdiv_eq_ediv_of_nonneg (by omega)]; omega
  have hwg : wrap64 (g : Int) = (g : Int) := by clear hKq hK; unfold wrap64; omega
  go_enter Try.func4, Try.ntmps4
  go_wp2_with (go_at_call 8; refine Calls.mono (head _) ?_; rintro e wh ⟨rfl, hxh⟩; obtain ⟨dh, rfl⟩ := hxh.grown; clear hxh)
  refine Calls.mono (new_ 200 _ (by omega) (by omega)) ?_
  rintro e wn ⟨p, q, rfl, hsn, hxn, hpw, hqw⟩
  have hxw : Ext w wn := Ext.trans (by repeat (first | (with_reducible exact Ext.refl _) | (with_reducible refine Ext.undrew ?_) | (with_reducible refine Ext.grow ?_ _) | (with_reducible refine Ext.drew ?_) | (with_reducible refine Ext.drewN ?_ _) | (with_reducible refine Ext.alloc ?_ _) | (with_reducible assumption) | ((with_reducible refine Ext.setCell ?_ ?_ _); rotate_left; (first | exact Nat.le_refl _ | ((try dsimp only); (try simp only [World.size_alloc, grow_size, World.size_setCell]); omega))))) hxn
  have HPW := hid (show w.heap.size ≤ p by simp only [grow_size] at hpw; omega)
  have HQW := hid (show w.heap.size ≤ q by simp only [grow_size] at hqw; omega)
  have HSN := hid hsn
  have HXN := hid hxw
  clear hpw hqw hsn hxn hxw
  by_cases h300 : (zs0.length : Int) ≤ 300
  · have hKt : (a1).tmod 3200 = (K : Int) := by rw [Int.tmod_eq_emod_of_nonneg l1]; exact hK
    go_wp2
    go_loopw [8, 9] (fun wv iv wr => ∃ (k : Nat) (P : Nat → Bool), k ≤ zs0.length ∧ iv = .int .i64 (k : Int) ∧ wv = .bool (P g) ∧ Hid (Sh wr p q 200 P) ∧ Hid (Ext w wr)) (fun _ iv _ => zs0.length - (intOf iv).toNat)
    case atStart => exact ⟨0, fun _ => false, Nat.zero_le _, rfl, rfl, HSN, HXN⟩
    case round =>
      obtain ⟨k, P, hk, rfl, rfl, hs, hx⟩ := hrel
      have HQ := HQW.out
      by_cases hlt : k < zs0.length
      · obtain ⟨z, hz⟩ : ∃ z, zs0[k] = z := ⟨_, rfl⟩
        obtain ⟨wf, wt⟩ := HW0.out z (hz ▸ List.getElem_mem hlt)
        obtain ⟨f, t, b⟩ := z
        obtain ⟨bb, oo, rfl, hb, c0, c1, c2⟩ := op_at (HS0.out.ext hx.out) hlt _ hz
        simp only at c0 c1 c2 wf wt
        obtain ⟨lf, uf⟩ := wfi64 wf
        obtain ⟨lt, ut⟩ := wfi64 wt
        have hk0 : (0 : Int) ≤ (k : Int) := by omega
        have hk1 : (k : Int) < (zs0.length : Int) := by omega
        have hqr : q < wr.heap.size := hs.out.ltq
        obtain ⟨W, hW⟩ : ∃ W, P g = W := ⟨_, rfl⟩
        clear wf wt hz lf uf lt ut
        by_cases h1 : 0 ≤ f
        · by_cases h2 : f ≤ t
          · by_cases h3 : t ≤ 3200
            · by_cases h4 : f % 16 = 0
              · have r1 := tmod_eq h4
                by_cases h5 : t % 16 = 0
                · have r2 := tmod_eq h5
                  by_cases c1 : f ≤ (g : Int) * 16
                  · by_cases c2 : (K : Int) < t
                    · skip
                      have HF := hid (show fineP 200 f t = true by unfold fineP; simp [h1, h2, h3, h4, h5])
                      have HW := hid (show paintP 200 P f t b g = b by rw [paintP_at hg HF.out]; rw [if_pos (by omega)])
                      have HI := hid (show isP 200 (paintP 200 P f t b) (K : Int) = b by unfold isP; simp; rw [hg]; exact HW.out)
                      rw [hW]
                      clear hW
                      go_wp2_with fail
                      refine Calls.mono (paint_any (hs.out.ext (by repeat (first | (with_reducible exact Ext.refl _) | (with_reducible refine Ext.undrew ?_) | (with_reducible refine Ext.grow ?_ _) | (with_reducible refine Ext.drew ?_) | (with_reducible refine Ext.drewN ?_ _) | (with_reducible refine Ext.alloc ?_ _) | (with_reducible assumption) | ((with_reducible refine Ext.setCell ?_ ?_ _); rotate_left; (first | exact Nat.le_refl _ | ((try dsimp only); (try simp only [World.size_alloc, grow_size, World.size_setCell]); omega)))))) f t b) ?_
                      rw [HF.out]
                      rintro e w2 ⟨rfl, hs2, ho2⟩
                      have n0 := (ho2.cells wr.heap.size 0 (by simp) (by omega)).trans (by simp [go_sem] : _ = some (.int .i64 f))
                      have n1 := (ho2.cells wr.heap.size 1 (by simp) (by omega)).trans (by simp [go_sem] : _ = some (.int .i64 t))
                      have n2 := (ho2.cells wr.heap.size 2 (by simp) (by omega)).trans (by simp [go_sem] : _ = some (.bool b))
                      have nl : wr.heap.size < w2.heap.size := by have := ho2.size; simp at this; omega
                      have HX2 := hid (Ext.only (Ext.trans hx.out (Ext.alloc (Ext.refl wr) _)) ho2 (fun x hx => by subst hx; omega))
                      have HS2 := hid hs2
                      generalize wr.heap.size = nb at n0 n1 n2 nl ⊢
                      clear ho2 hs2 hs hx
                      go_wp2_with (go_at_call 15; (with_reducible refine Calls.mono (is_ HS2.out (K : Int) (by omega)) ?_); rw [HI.out]; rintro e w1 ⟨rfl, rfl⟩)
                      go_roundw
                      case rel => exact ⟨k + 1, paintP 200 P f t b, by omega, by first | rfl | go_num, by rw [HW.out], HS2, HX2⟩
                      case measure => first | (simp [intOf]; done) | (simp [intOf]; omega)
                    · skip
                      have HF := hid (show fineP 200 f t = true by unfold fineP; simp [h1, h2, h3, h4, h5])
                      have HW := hid (show paintP 200 P f t b g = W by rw [paintP_at hg HF.out]; rw [if_neg (by omega)]; exact hW)
                      have HI := hid (show isP 200 (paintP 200 P f t b) (K : Int) = W by unfold isP; simp; rw [hg]; exact HW.out)
                      rw [hW]
                      clear hW
                      go_wp2_with fail
                      refine Calls.mono (paint_any (hs.out.ext (by repeat (first | (with_reducible exact Ext.refl _) | (with_reducible refine Ext.undrew ?_) | (with_reducible refine Ext.grow ?_ _) | (with_reducible refine Ext.drew ?_) | (with_reducible refine Ext.drewN ?_ _) | (with_reducible refine Ext.alloc ?_ _) | (with_reducible assumption) | ((with_reducible refine Ext.setCell ?_ ?_ _); rotate_left; (first | exact Nat.le_refl _ | ((try dsimp only); (try simp only [World.size_alloc, grow_size, World.size_setCell]); omega)))))) f t b) ?_
                      rw [HF.out]
                      rintro e w2 ⟨rfl, hs2, ho2⟩
                      have n0 := (ho2.cells wr.heap.size 0 (by simp) (by omega)).trans (by simp [go_sem] : _ = some (.int .i64 f))
                      have n1 := (ho2.cells wr.heap.size 1 (by simp) (by omega)).trans (by simp [go_sem] : _ = some (.int .i64 t))
                      have n2 := (ho2.cells wr.heap.size 2 (by simp) (by omega)).trans (by simp [go_sem] : _ = some (.bool b))
                      have nl : wr.heap.size < w2.heap.size := by have := ho2.size; simp at this; omega
                      have HX2 := hid (Ext.only (Ext.trans hx.out (Ext.alloc (Ext.refl wr) _)) ho2 (fun x hx => by subst hx; omega))
                      have HS2 := hid hs2
                      generalize wr.heap.size = nb at n0 n1 n2 nl ⊢
                      clear ho2 hs2 hs hx
                      go_wp2_with (go_at_call 15; (with_reducible refine Calls.mono (is_ HS2.out (K : Int) (by omega)) ?_); rw [HI.out]; rintro e w1 ⟨rfl, rfl⟩)
                      go_roundw
                      case rel => exact ⟨k + 1, paintP 200 P f t b, by omega, by first | rfl | go_num, by rw [HW.out], HS2, HX2⟩
                      case measure => first | (simp [intOf]; done) | (simp [intOf]; omega)
                  · skip
                    have HF := hid (show fineP 200 f t = true by unfold fineP; simp [h1, h2, h3, h4, h5])
                    have HW := hid (show paintP 200 P f t b g = W by rw [paintP_at hg HF.out]; rw [if_neg (by omega)]; exact hW)
                    have HI := hid (show isP 200 (paintP 200 P f t b) (K : Int) = W by unfold isP; simp; rw [hg]; exact HW.out)
                    rw [hW]
                    clear hW
                    go_wp2_with fail
                    refine Calls.mono (paint_any (hs.out.ext (by repeat (first | (with_reducible exact Ext.refl _) | (with_reducible refine Ext.undrew ?_) | (with_reducible refine Ext.grow ?_ _) | (with_reducible refine Ext.drew ?_) | (with_reducible refine Ext.drewN ?_ _) | (with_reducible refine Ext.alloc ?_ _) | (with_reducible assumption) | ((with_reducible refine Ext.setCell ?_ ?_ _); rotate_left; (first | exact Nat.le_refl _ | ((try dsimp only); (try simp only [World.size_alloc, grow_size, World.size_setCell]); omega)))))) f t b) ?_
                    rw [HF.out]
                    rintro e w2 ⟨rfl, hs2, ho2⟩
                    have n0 := (ho2.cells wr.heap.size 0 (by simp) (by omega)).trans (by simp [go_sem] : _ = some (.int .i64 f))
                    have n1 := (ho2.cells wr.heap.size 1 (by simp) (by omega)).trans (by simp [go_sem] : _ = some (.int .i64 t))
                    have n2 := (ho2.cells wr.heap.size 2 (by simp) (by omega)).trans (by simp [go_sem] : _ = some (.bool b))
                    have nl : wr.heap.size < w2.heap.size := by have := ho2.size; simp at this; omega
                    have HX2 := hid (Ext.only (Ext.trans hx.out (Ext.alloc (Ext.refl wr) _)) ho2 (fun x hx => by subst hx; omega))
                    have HS2 := hid hs2
                    generalize wr.heap.size = nb at n0 n1 n2 nl ⊢
                    clear ho2 hs2 hs hx
                    go_wp2_with (go_at_call 15; (with_reducible refine Calls.mono (is_ HS2.out (K : Int) (by omega)) ?_); rw [HI.out]; rintro e w1 ⟨rfl, rfl⟩)
                    go_roundw
                    case rel => exact ⟨k + 1, paintP 200 P f t b, by omega, by first | rfl | go_num, by rw [HW.out], HS2, HX2⟩
                    case measure => first | (simp [intOf]; done) | (simp [intOf]; omega)
                · have r2 := tmod_ne h5
                  have HF := hid (show fineP 200 f t = false by unfold fineP; simp [h5])
                  have HW := hid (show paintP 200 P f t b g = W by unfold paintP; rw [HF.out]; exact hW)
                  have HI := hid (show isP 200 (paintP 200 P f t b) (K : Int) = W by unfold isP; simp; rw [hg]; exact HW.out)
                  rw [hW]
                  clear hW
                  go_wp2_with fail
                  refine Calls.mono (paint_any (hs.out.ext (by repeat (first | (with_reducible exact Ext.refl _) | (with_reducible refine Ext.undrew ?_) | (with_reducible refine Ext.grow ?_ _) | (with_reducible refine Ext.drew ?_) | (with_reducible refine Ext.drewN ?_ _) | (with_reducible refine Ext.alloc ?_ _) | (with_reducible assumption) | ((with_reducible refine Ext.setCell ?_ ?_ _); rotate_left; (first | exact Nat.le_refl _ | ((try dsimp only); (try simp only [World.size_alloc, grow_size, World.size_setCell]); omega)))))) f t b) ?_
                  rw [HF.out]
                  rintro e w2 ⟨rfl, hs2, ho2⟩
                  have n0 := (ho2.cells wr.heap.size 0 (by simp) (by omega)).trans (by simp [go_sem] : _ = some (.int .i64 f))
                  have n1 := (ho2.cells wr.heap.size 1 (by simp) (by omega)).trans (by simp [go_sem] : _ = some (.int .i64 t))
                  have n2 := (ho2.cells wr.heap.size 2 (by simp) (by omega)).trans (by simp [go_sem] : _ = some (.bool b))
                  have nl : wr.heap.size < w2.heap.size := by have := ho2.size; simp at this; omega
                  have HX2 := hid (Ext.only (Ext.trans hx.out (Ext.alloc (Ext.refl wr) _)) ho2 (fun x hx => by subst hx; omega))
                  have HS2 := hid hs2
                  generalize wr.heap.size = nb at n0 n1 n2 nl ⊢
                  clear ho2 hs2 hs hx
                  go_wp2_with (go_at_call 15; (with_reducible refine Calls.mono (is_ HS2.out (K : Int) (by omega)) ?_); rw [HI.out]; rintro e w1 ⟨rfl, rfl⟩)
                  go_roundw
                  case rel => exact ⟨k + 1, paintP 200 P f t b, by omega, by first | rfl | go_num, by rw [HW.out], HS2, HX2⟩
                  case measure => first | (simp [intOf]; done) | (simp [intOf]; omega)
              · have r1 := tmod_ne h4
                have HF := hid (show fineP 200 f t = false by unfold fineP; simp [h4])
                have HW := hid (show paintP 200 P f t b g = W by unfold paintP; rw [HF.out]; exact hW)
                have HI := hid (show isP 200 (paintP 200 P f t b) (K : Int) = W by unfold isP; simp; rw [hg]; exact HW.out)
                rw [hW]
                clear hW
                go_wp2_with fail
                refine Calls.mono (paint_any (hs.out.ext (by repeat (first | (with_reducible exact Ext.refl _) | (with_reducible refine Ext.undrew ?_) | (with_reducible refine Ext.grow ?_ _) | (with_reducible refine Ext.drew ?_) | (with_reducible refine Ext.drewN ?_ _) | (with_reducible refine Ext.alloc ?_ _) | (with_reducible assumption) | ((with_reducible refine Ext.setCell ?_ ?_ _); rotate_left; (first | exact Nat.le_refl _ | ((try dsimp only); (try simp only [World.size_alloc, grow_size, World.size_setCell]); omega)))))) f t b) ?_
                rw [HF.out]
                rintro e w2 ⟨rfl, hs2, ho2⟩
                have n0 := (ho2.cells wr.heap.size 0 (by simp) (by omega)).trans (by simp [go_sem] : _ = some (.int .i64 f))
                have n1 := (ho2.cells wr.heap.size 1 (by simp) (by omega)).trans (by simp [go_sem] : _ = some (.int .i64 t))
                have n2 := (ho2.cells wr.heap.size 2 (by simp) (by omega)).trans (by simp [go_sem] : _ = some (.bool b))
                have nl : wr.heap.size < w2.heap.size := by have := ho2.size; simp at this; omega
                have HX2 := hid (Ext.only (Ext.trans hx.out (Ext.alloc (Ext.refl wr) _)) ho2 (fun x hx => by subst hx; omega))
                have HS2 := hid hs2
                generalize wr.heap.size = nb at n0 n1 n2 nl ⊢
                clear ho2 hs2 hs hx
                go_wp2_with (go_at_call 15; (with_reducible refine Calls.mono (is_ HS2.out (K : Int) (by omega)) ?_); rw [HI.out]; rintro e w1 ⟨rfl, rfl⟩)
                go_roundw
                case rel => exact ⟨k + 1, paintP 200 P f t b, by omega, by first | rfl | go_num, by rw [HW.out], HS2, HX2⟩
                case measure => first | (simp [intOf]; done) | (simp [intOf]; omega)
            · skip
              have HF := hid (show fineP 200 f t = false by unfold fineP; simp [h3])
              have HW := hid (show paintP 200 P f t b g = W by unfold paintP; rw [HF.out]; exact hW)
              have HI := hid (show isP 200 (paintP 200 P f t b) (K : Int) = W by unfold isP; simp; rw [hg]; exact HW.out)
              rw [hW]
              clear hW
              go_wp2_with fail
              refine Calls.mono (paint_any (hs.out.ext (by repeat (first | (with_reducible exact Ext.refl _) | (with_reducible refine Ext.undrew ?_) | (with_reducible refine Ext.grow ?_ _) | (with_reducible refine Ext.drew ?_) | (with_reducible refine Ext.drewN ?_ _) | (with_reducible refine Ext.alloc ?_ _) | (with_reducible assumption) | ((with_reducible refine Ext.setCell ?_ ?_ _); rotate_left; (first | exact Nat.le_refl _ | ((try dsimp only); (try simp only [World.size_alloc, grow_size, World.size_setCell]); omega)))))) f t b) ?_
              rw [HF.out]
              rintro e w2 ⟨rfl, hs2, ho2⟩
              have n0 := (ho2.cells wr.heap.size 0 (by simp) (by omega)).trans (by simp [go_sem] : _ = some (.int .i64 f))
              have n1 := (ho2.cells wr.heap.size 1 (by simp) (by omega)).trans (by simp [go_sem] : _ = some (.int .i64 t))
              have n2 := (ho2.cells wr.heap.size 2 (by simp) (by omega)).trans (by simp [go_sem] : _ = some (.bool b))
              have nl : wr.heap.size < w2.heap.size := by have := ho2.size; simp at this; omega
              have HX2 := hid (Ext.only (Ext.trans hx.out (Ext.alloc (Ext.refl wr) _)) ho2 (fun x hx => by subst hx; omega))
              have HS2 := hid hs2
              generalize wr.heap.size = nb at n0 n1 n2 nl ⊢
              clear ho2 hs2 hs hx
              go_wp2_with (go_at_call 15; (with_reducible refine Calls.mono (is_ HS2.out (K : Int) (by omega)) ?_); rw [HI.out]; rintro e w1 ⟨rfl, rfl⟩)
              go_roundw
              case rel => exact ⟨k + 1, paintP 200 P f t b, by omega, by first | rfl | go_num, by rw [HW.out], HS2, HX2⟩
              case measure => first | (simp [intOf]; done) | (simp [intOf]; omega)
          · skip
            have HF := hid (show fineP 200 f t = false by unfold fineP; simp [h2])
            have HW := hid (show paintP 200 P f t b g = W by unfold paintP; rw [HF.out]; exact hW)
            have HI := hid (show isP 200 (paintP 200 P f t b) (K : Int) = W by unfold isP; simp; rw [hg]; exact HW.out)
            rw [hW]
            clear hW
            go_wp2_with fail
            refine Calls.mono (paint_any (hs.out.ext (by repeat (first | (with_reducible exact Ext.refl _) | (with_reducible refine Ext.undrew ?_) | (with_reducible refine Ext.grow ?_ _) | (with_reducible refine Ext.drew ?_) | (with_reducible refine Ext.drewN ?_ _) | (with_reducible refine Ext.alloc ?_ _) | (with_reducible assumption) | ((with_reducible refine Ext.setCell ?_ ?_ _); rotate_left; (first | exact Nat.le_refl _ | ((try dsimp only); (try simp only [World.size_alloc, grow_size, World.size_setCell]); omega)))))) f t b) ?_
            rw [HF.out]
            rintro e w2 ⟨rfl, hs2, ho2⟩
            have n0 := (ho2.cells wr.heap.size 0 (by simp) (by omega)).trans (by simp [go_sem] : _ = some (.int .i64 f))
            have n1 := (ho2.cells wr.heap.size 1 (by simp) (by omega)).trans (by simp [go_sem] : _ = some (.int .i64 t))
            have n2 := (ho2.cells wr.heap.size 2 (by simp) (by omega)).trans (by simp [go_sem] : _ = some (.bool b))
            have nl : wr.heap.size < w2.heap.size := by have := ho2.size; simp at this; omega
            have HX2 := hid (Ext.only (Ext.trans hx.out (Ext.alloc (Ext.refl wr) _)) ho2 (fun x hx => by subst hx; omega))
            have HS2 := hid hs2
            generalize wr.heap.size = nb at n0 n1 n2 nl ⊢
            clear ho2 hs2 hs hx
            go_wp2_with (go_at_call 15; (with_reducible refine Calls.mono (is_ HS2.out (K : Int) (by omega)) ?_); rw [HI.out]; rintro e w1 ⟨rfl, rfl⟩)
            go_roundw
            case rel => exact ⟨k + 1, paintP 200 P f t b, by omega, by first | rfl | go_num, by rw [HW.out], HS2, HX2⟩
            case measure => first | (simp [intOf]; done) | (simp [intOf]; omega)
        · skip
          have HF := hid (show fineP 200 f t = false by unfold fineP; simp [h1])
          have HW := hid (show paintP 200 P f t b g = W by unfold paintP; rw [HF.out]; exact hW)
          have HI := hid (show isP 200 (paintP 200 P f t b) (K : Int) = W by unfold isP; simp; rw [hg]; exact HW.out)
          rw [hW]
          clear hW
          go_wp2_with fail
          refine Calls.mono (paint_any (hs.out.ext (by repeat (first | (with_reducible exact Ext.refl _) | (with_reducible refine Ext.undrew ?_) | (with_reducible refine Ext.grow ?_ _) | (with_reducible refine Ext.drew ?_) | (with_reducible refine Ext.drewN ?_ _) | (with_reducible refine Ext.alloc ?_ _) | (with_reducible assumption) | ((with_reducible refine Ext.setCell ?_ ?_ _); rotate_left; (first | exact Nat.le_refl _ | ((try dsimp only); (try simp only [World.size_alloc, grow_size, World.size_setCell]); omega)))))) f t b) ?_
          rw [HF.out]
          rintro e w2 ⟨rfl, hs2, ho2⟩
          have n0 := (ho2.cells wr.heap.size 0 (by simp) (by omega)).trans (by simp [go_sem] : _ = some (.int .i64 f))
          have n1 := (ho2.cells wr.heap.size 1 (by simp) (by omega)).trans (by simp [go_sem] : _ = some (.int .i64 t))
          have n2 := (ho2.cells wr.heap.size 2 (by simp) (by omega)).trans (by simp [go_sem] : _ = some (.bool b))
          have nl : wr.heap.size < w2.heap.size := by have := ho2.size; simp at this; omega
          have HX2 := hid (Ext.only (Ext.trans hx.out (Ext.alloc (Ext.refl wr) _)) ho2 (fun x hx => by subst hx; omega))
          have HS2 := hid hs2
          generalize wr.heap.size = nb at n0 n1 n2 nl ⊢
          clear ho2 hs2 hs hx
          go_wp2_with (go_at_call 15; (with_reducible refine Calls.mono (is_ HS2.out (K : Int) (by omega)) ?_); rw [HI.out]; rintro e w1 ⟨rfl, rfl⟩)
          go_roundw
          case rel => exact ⟨k + 1, paintP 200 P f t b, by omega, by first | rfl | go_num, by rw [HW.out], HS2, HX2⟩
          case measure => first | (simp [intOf]; done) | (simp [intOf]; omega)
      · obtain rfl : k = zs0.length := by omega
        obtain ⟨W, hW⟩ : ∃ W, P g = W := ⟨_, rfl⟩
        have HH := hid (show hitsP 200 P true (K : Int) 1048576 = W by
          unfold hitsP isP
          have : (K : Int) < 1048576 := by omega
          simp [this, hg, hW])
        rw [hW]
        clear hW
        go_wp2_with (go_at_call 17; (with_reducible refine Calls.mono (hits_ p q 200 P true (K : Int) 1048576 0 0 0 _ hs.out (by omega)) ?_); rw [HH.out]; rintro e w1 ⟨rfl, hy⟩; obtain ⟨dy, rfl⟩ := hy.grown; clear hy)
        go_ret
        exact ⟨by simp, Ext.trans hx.out (by repeat (first | (with_reducible exact Ext.refl _) | (with_reducible refine Ext.undrew ?_) | (with_reducible refine Ext.grow ?_ _) | (with_reducible refine Ext.drew ?_) | (with_reducible refine Ext.drewN ?_ _) | (with_reducible refine Ext.alloc ?_ _) | (with_reducible assumption) | ((with_reducible refine Ext.setCell ?_ ?_ _); rotate_left; (first | exact Nat.le_refl _ | ((try dsimp only); (try simp only [World.size_alloc, grow_size, World.size_setCell]); omega)))))⟩
  · have h300' : ¬ (zs0.length : Int) ≤ 300 := h300
    go_wp2
    go_ret
    exact ⟨rfl, Ext.trans HXN.out (by repeat (first | (with_reducible exact Ext.refl _) | (with_reducible refine Ext.undrew ?_) | (with_reducible refine Ext.grow ?_ _) | (with_reducible refine Ext.drew ?_) | (with_reducible refine Ext.drewN ?_ _) | (with_reducible refine Ext.alloc ?_ _) | (with_reducible assumption) | ((with_reducible refine Ext.setCell ?_ ?_ _); rotate_left; (first | exact Nat.le_refl _ | ((try dsimp only); (try simp only [World.size_alloc, grow_size, World.size_setCell]); omega)))))⟩
end shadowSet

end Go.Proofs.Ytgjjimpialgojaa
