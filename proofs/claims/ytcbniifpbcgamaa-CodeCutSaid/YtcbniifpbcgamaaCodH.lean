/- Layer 15: the instruction of bytes. -/
import Derived.Test.YtcbniifpbcgamaaCodG
import Derived.Test.YtcbniifpbcgamaaCodR
namespace Go.Proofs.Ytcbniifpbcgamaa
set_option linter.unusedSimpArgs false
set_option linter.unusedVariables false
open Go.RowKit

theorem sgn16_bd {n : Int} (h0 : 0 ≤ n) (h1 : n ≤ 65535) : -32768 ≤ sgn16 n ∧ sgn16 n ≤ 32767 := by unfold sgn16; split <;> omega
set_option maxHeartbeats 800000 in
theorem get_len (A : Option Addr) (n ca : Nat) (w : World) (hn : ¬ (n : Int) = 4) :
    Calls Try.prog 11 #[.slice A n ca] w fun e w' => e = .returned (.tuple #[.agg #[.int .i64 0, .int .i64 0, .int .i64 0, .int .i64 0], .int .i64 1]) ∧ Ext w w' := by
  go_enter Try.func11, Try.ntmps11
  go_wp2
  exact bodyPost_ret (v := .tuple #[.agg #[.int .i64 0, .int .i64 0, .int .i64 0, .int .i64 0], .int .i64 1]) (by simp [results, Try.results11, go_sem]) rfl ⟨rfl, (by repeat (first | (with_reducible exact Ext.refl _) | (with_reducible refine Ext.undrew ?_) | (with_reducible refine Ext.grow ?_ _) | (with_reducible refine Ext.drew ?_) | (with_reducible refine Ext.drewN ?_ _) | (with_reducible refine Ext.alloc ?_ _) | (with_reducible assumption) | ((with_reducible refine Ext.setCell ?_ ?_ _); rotate_left; (first | exact Nat.le_refl _ | ((try dsimp only); (try simp only [World.size_alloc, grow_size, World.size_setCell]); omega)))))⟩

set_option maxHeartbeats 800000 in
theorem rget_len (A : Option Addr) (n ca : Nat) (w : World) (hn : ¬ (n : Int) = 4) :
    Calls Try.prog 12 #[.slice A n ca] w fun e w' => e = .returned (.tuple #[.agg #[.int .i64 0, .int .i64 0, .int .i64 0, .int .i64 0], .int .i64 1]) ∧ Ext w w' := by
  go_enter Try.func12, Try.ntmps12
  go_wp2
  exact bodyPost_ret (v := .tuple #[.agg #[.int .i64 0, .int .i64 0, .int .i64 0, .int .i64 0], .int .i64 1]) (by simp [results, Try.results12, go_sem]) rfl ⟨rfl, (by repeat (first | (with_reducible exact Ext.refl _) | (with_reducible refine Ext.undrew ?_) | (with_reducible refine Ext.grow ?_ _) | (with_reducible refine Ext.drew ?_) | (with_reducible refine Ext.drewN ?_ _) | (with_reducible refine Ext.alloc ?_ _) | (with_reducible assumption) | ((with_reducible refine Ext.setCell ?_ ?_ _); rotate_left; (first | exact Nat.le_refl _ | ((try dsimp only); (try simp only [World.size_alloc, grow_size, World.size_setCell]); omega)))))⟩

/-- What is told of four bytes. -/
def getR (x0 x1 x2 x3 : Int) : Value := if rightI x0 x1 (gB x0 x2 x3) (gC x0 x3) = true then .tuple #[.agg #[.int .i64 x0, .int .i64 x1, .int .i64 (gB x0 x2 x3), .int .i64 (gC x0 x3)], .int .i64 0] else .tuple #[.agg #[.int .i64 0, .int .i64 0, .int .i64 0, .int .i64 0], .int .i64 151]
set_option maxRecDepth 100000 in
set_option maxHeartbeats 4000000 in
theorem get_all (b o ca : Nat) (x0 x1 x2 x3 : Int) (w : World) (hr : RdB w (some ⟨b, o, none⟩) [x0, x1, x2, x3]) (hca : 4 ≤ ca) (hcm : ca ≤ maxLen) (hb0 : 0 ≤ x0 ∧ x0 ≤ 255) (hb1 : 0 ≤ x1 ∧ x1 ≤ 255) (hb2 : 0 ≤ x2 ∧ x2 ≤ 255) (hb3 : 0 ≤ x3 ∧ x3 ≤ 255) :
    Calls Try.prog 11 #[.slice (some ⟨b, o, none⟩) 4 ca] w fun e w' => e = .returned (getR x0 x1 x2 x3) ∧ Ext w w' := by
  have hbw : b < w.heap.size := by obtain ⟨b', o', hA, hb, _⟩ := hr (by simp); cases hA; exact hb
  have hcell : ∀ j, j < 4 → w.cell? ⟨b, o + j, none⟩ = some (.int .u8 ((v4 x0 x1 x2 x3) j)) := fun j hj => by
    obtain ⟨b', o', hA, _, hc⟩ := hr (by simp)
    cases hA
    rw [hc j (by simpa using hj)]
    match j, hj with
    | 0, _ => rfl
    | 1, _ => rfl
    | 2, _ => rfl
    | 3, _ => rfl
  have hbd : ∀ j, j < 4 → 0 ≤ (v4 x0 x1 x2 x3) j ∧ (v4 x0 x1 x2 x3) j ≤ 255 := fun j hj => by
    match j, hj with
    | 0, _ => exact hb0
    | 1, _ => exact hb1
    | 2, _ => exact hb2
    | 3, _ => exact hb3
  have hpk := fun h => partV_kd (x0 := x0) (x1 := x1) (x2 := x2) (x3 := x3) h
  have hr0 : kd x0 = 0 → rightI x0 x1 (gB x0 x2 x3) (gC x0 x3) = false := fun h => by unfold rightI; rw [h]; rfl
  have hs3 : (kstr (kd x0)).size ≤ 3 := by have := kstr_size ⟨kd x0, kd_lt x0⟩; simp only at this; split at this <;> omega
  have has : ∀ i, i < 3 → chAt (kstr (kd x0)) i < 128 := fun i hi => kstr_ascii ⟨kd x0, kd_lt x0⟩ ⟨i, hi⟩
  have hwv : ∀ i, i < 3 → (chAt (kstr (kd x0)) i = 119 → i = 1) := fun i hi => (kstr_w ⟨kd x0, kd_lt x0⟩ ⟨i, hi⟩).1
  have hK := fun w => kinds_ x0 w
  have hc0 := hcell 0 (by omega)
  simp only [Nat.add_zero] at hc0
  replace hc0 : w.cell? ⟨b, o, none⟩ = some (.int .u8 x0) := hc0
  obtain ⟨hb0l, hb0u⟩ := hb0
  generalize kstr (kd x0) = s at hpk hs3 has hwv hK
  have HAS := hid has
  have HK := hid hK
  have HPK := hid hpk
  have HWV := hid hwv
  have HC := hid hcell
  have HBD := hid hbd
  have HR0 := hid hr0
  clear hpk has hwv hK hcell hbd hr0 hr hb1 hb2 hb3
  go_enter Try.func11, Try.ntmps11
  go_wp2_with (go_at_call 15; with_reducible refine (HK.out _).mono ?_; rintro e w1 ⟨rfl, hy⟩; obtain ⟨d, rfl⟩ := hy.grown; clear hy)
  have f1 : Hid (Ext w (w.alloc (.cells #[.int .i64 0, .int .i64 0, .int .i64 0, .int .i64 0] 23))) := hid (by repeat (first | (with_reducible exact Ext.refl _) | (with_reducible refine Ext.undrew ?_) | (with_reducible refine Ext.grow ?_ _) | (with_reducible refine Ext.drew ?_) | (with_reducible refine Ext.drewN ?_ _) | (with_reducible refine Ext.alloc ?_ _) | (with_reducible assumption) | ((with_reducible refine Ext.setCell ?_ ?_ _); rotate_left; (first | exact Nat.le_refl _ | ((try dsimp only); (try simp only [World.size_alloc, grow_size, World.size_setCell]); omega)))))
  have f3 : ((w.alloc (.cells #[.int .i64 0, .int .i64 0, .int .i64 0, .int .i64 0] 23)).cell? ⟨w.heap.size, 0, none⟩ = some (.int .i64 0) ∧ (w.alloc (.cells #[.int .i64 0, .int .i64 0, .int .i64 0, .int .i64 0] 23)).frozen? ⟨w.heap.size, 0, none⟩ = false ∧ (w.alloc (.cells #[.int .i64 0, .int .i64 0, .int .i64 0, .int .i64 0] 23)).cell? ⟨w.heap.size, 1, none⟩ = some (.int .i64 0) ∧ (w.alloc (.cells #[.int .i64 0, .int .i64 0, .int .i64 0, .int .i64 0] 23)).frozen? ⟨w.heap.size, 1, none⟩ = false ∧ (w.alloc (.cells #[.int .i64 0, .int .i64 0, .int .i64 0, .int .i64 0] 23)).cell? ⟨w.heap.size, 2, none⟩ = some (.int .i64 0) ∧ (w.alloc (.cells #[.int .i64 0, .int .i64 0, .int .i64 0, .int .i64 0] 23)).frozen? ⟨w.heap.size, 2, none⟩ = false ∧ (w.alloc (.cells #[.int .i64 0, .int .i64 0, .int .i64 0, .int .i64 0] 23)).cell? ⟨w.heap.size, 3, none⟩ = some (.int .i64 0) ∧ (w.alloc (.cells #[.int .i64 0, .int .i64 0, .int .i64 0, .int .i64 0] 23)).frozen? ⟨w.heap.size, 3, none⟩ = false) := by simp [go_sem]
  have f4 : w.heap.size + 1 = (w.alloc (.cells #[.int .i64 0, .int .i64 0, .int .i64 0, .int .i64 0] 23)).heap.size := by simp
  rw [f4]
  generalize (w.alloc (.cells #[.int .i64 0, .int .i64 0, .int .i64 0, .int .i64 0] 23)) = A at f1 f3 f4 ⊢
  have g1 : PB (Go.Proofs.Ytcbniifpbcgamaa.grow (A.alloc (.cells #[.int .i64 0, .int .i64 0, .int .i64 0] 48)) d) A.heap.size (partV s (v4 x0 x1 x2 x3) 0) := fun j hj => by
    match j, hj with
    | 0, _ => simp [go_sem, partV]
    | 1, _ => simp [go_sem, partV]
    | 2, _ => simp [go_sem, partV]
  have g2 : Ext A (Go.Proofs.Ytcbniifpbcgamaa.grow (A.alloc (.cells #[.int .i64 0, .int .i64 0, .int .i64 0] 48)) d) := (by repeat (first | (with_reducible exact Ext.refl _) | (with_reducible refine Ext.undrew ?_) | (with_reducible refine Ext.grow ?_ _) | (with_reducible refine Ext.drew ?_) | (with_reducible refine Ext.drewN ?_ _) | (with_reducible refine Ext.alloc ?_ _) | (with_reducible assumption) | ((with_reducible refine Ext.setCell ?_ ?_ _); rotate_left; (first | exact Nat.le_refl _ | ((try dsimp only); (try simp only [World.size_alloc, grow_size, World.size_setCell]); omega)))))
  have g3 : A.heap.size + 1 + d.n = (Go.Proofs.Ytcbniifpbcgamaa.grow (A.alloc (.cells #[.int .i64 0, .int .i64 0, .int .i64 0] 48)) d).heap.size := by simp [grow_size]
  rw [g3]
  generalize (Go.Proofs.Ytcbniifpbcgamaa.grow (A.alloc (.cells #[.int .i64 0, .int .i64 0, .int .i64 0] 48)) d) = W at g1 g2 g3 ⊢
  have G1 := hid g1
  have G2 := hid g2
  have F3 := hid f3
  have hbA : b < A.heap.size := by omega
  have hqA : w.heap.size < A.heap.size := by omega
  have hAW : A.heap.size < W.heap.size := by omega
  have hnAW : ¬ A.heap.size = W.heap.size := by omega
  have hnbA : ¬ b = A.heap.size := by omega
  clear f3 g1 g2 g3 f4 hc0
  go_loopw [] (fun wr => ∃ i : Nat, i ≤ s.size ∧ Hid (wr.heap[W.heap.size]? = some (.stringIter s i)) ∧ Hid (PB wr A.heap.size (partV s (v4 x0 x1 x2 x3) i)) ∧ Hid (Ext A wr)) (fun wr => s.size - wr.iterPos W.heap.size)
  case atStart => exact ⟨0, Nat.zero_le _, hid (World.iter_heap _ _ _), hid (G1.out.only (S := fun _ => False) (Only.ofExt (Ext.alloc (Ext.refl W) _)) hAW id), hid (Ext.trans G2.out (Ext.alloc (Ext.refl W) _))⟩
  case round =>
    obtain ⟨i, hi, hit, hpb, hx⟩ := hrel
    by_cases hlt : i < s.size
    · have hi3 : i < 3 := by omega
      have ha := HAS.out i hi3
      have hch := chAt_get hlt
      have HI1 : (0 : Int) ≤ (i : Int) := by omega
      have HI2 : (i : Int) < 3 := by omega
      have hkr : W.heap.size < wr.heap.size := (Array.getElem?_eq_some_iff.1 hit.out).1
      have hwt : Hid ((wr.iterAt W.heap.size s (i + 1)).heap[W.heap.size]? = some (.stringIter s (i + 1))) := hid (Lib.iterAt_heap _ _ _ _ _ hit.out)
      have hpt : Hid (PB (wr.iterAt W.heap.size s (i + 1)) A.heap.size (partV s (v4 x0 x1 x2 x3) i)) := hid (hpb.out.only (S := (· = W.heap.size)) (by rw [turn_iter]; exact Only.turn (S := (· = W.heap.size)) (Only.refl _ _) (.inl rfl) _) (by omega) hnAW)
      have hxt : Hid (Ext A (wr.iterAt W.heap.size s (i + 1))) := hid (Ext.turn hx.out (by omega) _)
      have hst : (wr.iterAt W.heap.size s (i + 1)).heap.size = wr.heap.size := turn_size _ _ _
      have hnx := fun ty => Lib.run_next_ascii_at (P := Try.prog) wr W.heap.size s i ty hit.out hlt (by rw [hch]; exact ha)
      rw [hch] at hnx
      have HNX := hid hnx
      have HMS : Hid (wr.iterPos W.heap.size = i) := hid (by simp [World.iterPos, hit.out])
      clear hnx hch hpb
      generalize wr.iterAt W.heap.size s (i + 1) = wt at hwt hpt hxt hst HNX
      have hkt : W.heap.size < wt.heap.size := by omega
      have hAt : A.heap.size < wt.heap.size := by omega
      have hbt : b < wt.heap.size := by omega
      obtain ⟨hpc, hpf⟩ := hpt.out i hi3
      have hbyte : wt.cell? ⟨b, o + (i + 1), none⟩ = some (.int .u8 ((v4 x0 x1 x2 x3) (i + 1))) := (hxt.out.cells b _ hbA).trans ((f1.out.cells b _ hbw).trans (HC.out (i + 1) (by omega)))
      obtain ⟨hbl, hbu⟩ := HBD.out (i + 1) (by omega)
      have HS2 : ∀ z, Hid ((wt.setCell ⟨A.heap.size, i, none⟩ z).heap[W.heap.size]? = some (.stringIter s (i + 1))) := fun z => hid ((Only.block (Only.setCell (S := (· = A.heap.size)) (Only.refl _ wt) (.inl rfl) z) W.heap.size hkt (fun e => hnAW e.symm)).trans hwt.out)
      have HX3 : ∀ z, Hid (Ext A (wt.setCell ⟨A.heap.size, i, none⟩ z)) := fun z => hid (Ext.setCell hxt.out (Nat.le_refl _) z)
      by_cases h119 : chAt s i = 119
      · have hi1 : i ≤ 1 := by have := HWV.out i hi3 h119; omega
        have e119 : ((chAt s i : Int) == 119) = true := by simp; omega
        have hp : getP s (v4 x0 x1 x2 x3) i = sgn16 ((v4 x0 x1 x2 x3) (i + 1) * 256 + (v4 x0 x1 x2 x3) (i + 2)) := by unfold getP; rw [if_pos h119]
        have hbyte2 : wt.cell? ⟨b, o + (i + 2), none⟩ = some (.int .u8 ((v4 x0 x1 x2 x3) (i + 2))) := (hxt.out.cells b _ hbA).trans ((f1.out.cells b _ hbw).trans (HC.out (i + 2) (by omega)))
        obtain ⟨hcl, hcu⟩ := HBD.out (i + 2) (by omega)
        have hor := or16 ⟨hbl, hbu⟩ ⟨hcl, hcu⟩
        obtain ⟨hsl, hsu⟩ := sgn16_bd (n := (v4 x0 x1 x2 x3) (i + 1) * 256 + (v4 x0 x1 x2 x3) (i + 2)) (by omega) (by omega)
        have hP2 := hid (hpt.out.set hi3 _ hp.symm)
        clear hp h119 hst
        go_wp2
        rw [HNX.out]
        go_wp2
        refine wp_region_turn (q := A.heap.size) (.rd 0 (.rd 1 (.rd 2 (.rd 3 (.rd 4 (.rd 5 (.rd 6 (.rd 7 (.rd 8 (.rd 9 (.rd 10 (.rd 11 (.rd 12 (.rd 13 (.rd 14 (.rd 15 (.rd 16 (.ac 17 .done)))))))))))))))))) (by kernel_rfl) (by kernel_rfl) (fun _ _ d _ _ h => by cases d <;> exact h) (by simp only [Ord.map, nthOp, List.append]; rfl) ?_
        intro d0
        repeat (refine turn_read (by rfl) (fun K hK => ?_); go_big_quiet_op; refine hK _ ?_; clear hK K)
        refine turn_act (by rfl) (fun K hK => ?_)
        go_wp2_with fail
        refine ⟨_, Only.refl _ _, (by first | exact Only.setCell (S := (· = A.heap.size)) (Only.refl _ _) (.inl rfl) _ | (rw [← grow_setCell _ _ _ _ _ hAt]; exact Only.setCell (S := (· = A.heap.size)) (Only.refl _ _) (.inl rfl) _)), ?_⟩
        refine turn_nil ?_
        have HP3 := hid (hP2.out.only (S := fun _ => False) (Only.ofExt (Ext.grow (Ext.refl _) d0)) (by rw [World.size_setCell]; exact hAt) id)
        go_wp2
        go_roundw
        case rel => exact ⟨i + 1, by omega, hid ((grow_old _ d0 _ (by rw [World.size_setCell]; exact hkt)).trans (HS2 _).out), HP3, hid (Ext.grow (HX3 _).out d0)⟩
        case measure =>
          rw [HMS.out]
          simp only [World.iterPos]
          rw [grow_old _ d0 _ (by rw [World.size_setCell]; exact hkt), (HS2 _).out]
          simp only
          omega
      · have e119 : ((chAt s i : Int) == 119) = false := by simp; omega
        by_cases h118 : chAt s i = 118
        · have e118 : ((chAt s i : Int) == 118) = true := by simp; omega
          have hp : getP s (v4 x0 x1 x2 x3) i = 0 := by unfold getP; rw [if_neg h119, if_pos h118]
          have hP2 := hid (hpt.out.same hp)
          clear hp h118 h119 hst hpc hpf hbyte
          go_wp2
          rw [HNX.out]
          go_wp2
          go_roundw
          case rel => exact ⟨i + 1, by omega, hwt, hP2, hxt⟩
          case measure =>
            rw [HMS.out]
            simp only [World.iterPos, hwt.out]
            omega
        · have e118 : ((chAt s i : Int) == 118) = false := by simp; omega
          have hp : getP s (v4 x0 x1 x2 x3) i = (v4 x0 x1 x2 x3) (i + 1) := by unfold getP; rw [if_neg h119, if_neg h118]
          have hP2 := hid (hpt.out.set hi3 ((v4 x0 x1 x2 x3) (i + 1)) hp.symm)
          clear hp h118 h119 hst
          go_wp2
          rw [HNX.out]
          go_wp2
          go_roundw
          case rel => exact ⟨i + 1, by omega, HS2 _, hP2, HX3 _⟩
          case measure =>
            rw [HMS.out]
            simp only [World.iterPos, (HS2 _).out]
            omega
    · have hi' : i = s.size := by omega
      subst hi'
      have hcs := F3.out
      obtain ⟨q0, z0, q1, z1, q2, z2, q3, z3⟩ := hcs
      have r0 := (hx.out.cells w.heap.size 0 hqA).trans q0
      have r1 := (hx.out.cells w.heap.size 1 hqA).trans q1
      have r2 := (hx.out.cells w.heap.size 2 hqA).trans q2
      have r3 := (hx.out.cells w.heap.size 3 hqA).trans q3
      have y0 := (hx.out.frozens w.heap.size 0 hqA).trans z0
      have y1 := (hx.out.frozens w.heap.size 1 hqA).trans z1
      have y2 := (hx.out.frozens w.heap.size 2 hqA).trans z2
      have y3 := (hx.out.frozens w.heap.size 3 hqA).trans z3
      have n0 := (hpb.out 0 (by omega)).1
      have n1 := (hpb.out 1 (by omega)).1
      have n2 := (hpb.out 2 (by omega)).1
      have hsr := hx.out.size
      have hkr : W.heap.size < wr.heap.size := (Array.getElem?_eq_some_iff.1 hit.out).1
      have hqr : w.heap.size < wr.heap.size := by omega
      have hAr : A.heap.size < wr.heap.size := by omega
      have hbr : b < wr.heap.size := by omega
      have hnq : ¬ w.heap.size = A.heap.size := by omega
      have hnq2 : ¬ A.heap.size = w.heap.size := by omega
      have hby0 : wr.cell? ⟨b, o, none⟩ = some (.int .u8 x0) := (hx.out.cells b _ hbA).trans ((f1.out.cells b _ hbw).trans (HC.out 0 (by omega)))
      have HNX := hid fun ty => Lib.run_next_end_at (P := Try.prog) wr W.heap.size s s.size ty hit.out (by omega)
      have hxw : Ext w wr := Ext.trans f1.out hx.out
      clear q0 q1 q2 q3 z0 z1 z2 z3 hsr hnAW
      by_cases hk : kd x0 = 0
      · have HE : Hid (getR x0 x1 x2 x3 = .tuple #[.agg #[.int .i64 0, .int .i64 0, .int .i64 0, .int .i64 0], .int .i64 151]) := hid (by unfold getR; rw [HR0.out hk]; rfl)
        generalize partV s (v4 x0 x1 x2 x3) s.size 0 = p0 at n0
        generalize partV s (v4 x0 x1 x2 x3) s.size 1 = p1 at n1
        generalize partV s (v4 x0 x1 x2 x3) s.size 2 = p2 at n2
        have HRR : Hid (rightI x0 p0 p1 p2 = false) := hid (by unfold rightI; rw [hk]; rfl)
        clear hk
        go_wp2
        rw [HNX.out]
        go_wp2
        refine wp_region_step (.rd 0 (.rd 1 (.rd 2 (.rd 3 (.rd 4 (.rd 5 (.rd 6 (.rd 7 (.rd 8 (.rd 9 (.rd 10 (.ac 11 (.ac 12 .done))))))))))))) (by kernel_rfl) (by kernel_rfl) (fun _ _ d _ _ h => by cases d <;> exact h) (by simp only [Ord.map, nthOp, List.append]; rfl) ?_
        intro d0
        repeat' (first | (refine step_read (by rfl) (fun K hK => ?_); go_big_quiet_op; refine hK _ ?_; clear hK K) | (refine step_act (by rfl) (fun K hK => ?_); go_wp2_with (first | fail); refine ⟨_, Ext.refl _, (by repeat (first | (with_reducible exact Ext.refl _) | (with_reducible refine Ext.undrew ?_) | (with_reducible refine Ext.grow ?_ _) | (with_reducible refine Ext.drew ?_) | (with_reducible refine Ext.drewN ?_ _) | (with_reducible refine Ext.alloc ?_ _) | (with_reducible assumption) | ((with_reducible refine Ext.setCell ?_ ?_ _); rotate_left; (first | exact Nat.le_refl _ | ((try dsimp only); (try simp only [World.size_alloc, grow_size, World.size_setCell]); omega))))), ?_⟩) | refine step_br ?_ ?_)
        all_goals refine step_nil ?_
        go_wp2_with (go_at_call 17; refine (right_ _ _ _ _ _).mono ?_; rw [HRR.out]; rintro e w1 ⟨rfl, hy⟩; obtain ⟨d, rfl⟩ := hy.grown; clear hy)
        exact bodyPost_ret (v := .tuple #[.agg #[.int .i64 0, .int .i64 0, .int .i64 0, .int .i64 0], .int .i64 151]) (by simp [results, Try.results11, go_sem, *]) rfl ⟨HE.out.symm ▸ rfl, (by repeat (first | (with_reducible exact Ext.refl _) | (with_reducible refine Ext.undrew ?_) | (with_reducible refine Ext.grow ?_ _) | (with_reducible refine Ext.drew ?_) | (with_reducible refine Ext.drewN ?_ _) | (with_reducible refine Ext.alloc ?_ _) | (with_reducible assumption) | ((with_reducible refine Ext.setCell ?_ ?_ _); rotate_left; (first | exact Nat.le_refl _ | ((try dsimp only); (try simp only [World.size_alloc, grow_size, World.size_setCell]); omega)))))⟩
      · obtain ⟨e0, e1, e2⟩ := HPK.out hk
        rw [e0] at n0
        rw [e1] at n1
        rw [e2] at n2
        clear e0 e1 e2 hk
        cases hRi : rightI x0 x1 (gB x0 x2 x3) (gC x0 x3) with
        | false =>
          have HE : Hid (getR x0 x1 x2 x3 = .tuple #[.agg #[.int .i64 0, .int .i64 0, .int .i64 0, .int .i64 0], .int .i64 151]) := hid (by unfold getR; rw [hRi]; rfl)
          have HRR := hid hRi
          clear hRi
          go_wp2
          rw [HNX.out]
          go_wp2
          refine wp_region_step (.rd 0 (.rd 1 (.rd 2 (.rd 3 (.rd 4 (.rd 5 (.rd 6 (.rd 7 (.rd 8 (.rd 9 (.rd 10 (.ac 11 (.ac 12 .done))))))))))))) (by kernel_rfl) (by kernel_rfl) (fun _ _ d _ _ h => by cases d <;> exact h) (by simp only [Ord.map, nthOp, List.append]; rfl) ?_
          intro d0
          repeat' (first | (refine step_read (by rfl) (fun K hK => ?_); go_big_quiet_op; refine hK _ ?_; clear hK K) | (refine step_act (by rfl) (fun K hK => ?_); go_wp2_with (first | fail); refine ⟨_, Ext.refl _, (by repeat (first | (with_reducible exact Ext.refl _) | (with_reducible refine Ext.undrew ?_) | (with_reducible refine Ext.grow ?_ _) | (with_reducible refine Ext.drew ?_) | (with_reducible refine Ext.drewN ?_ _) | (with_reducible refine Ext.alloc ?_ _) | (with_reducible assumption) | ((with_reducible refine Ext.setCell ?_ ?_ _); rotate_left; (first | exact Nat.le_refl _ | ((try dsimp only); (try simp only [World.size_alloc, grow_size, World.size_setCell]); omega))))), ?_⟩) | refine step_br ?_ ?_)
          all_goals refine step_nil ?_
          go_wp2_with (go_at_call 17; refine (right_ _ _ _ _ _).mono ?_; rw [HRR.out]; rintro e w1 ⟨rfl, hy⟩; obtain ⟨d, rfl⟩ := hy.grown; clear hy)
          exact bodyPost_ret (v := .tuple #[.agg #[.int .i64 0, .int .i64 0, .int .i64 0, .int .i64 0], .int .i64 151]) (by simp [results, Try.results11, go_sem, *]) rfl ⟨HE.out.symm ▸ rfl, (by repeat (first | (with_reducible exact Ext.refl _) | (with_reducible refine Ext.undrew ?_) | (with_reducible refine Ext.grow ?_ _) | (with_reducible refine Ext.drew ?_) | (with_reducible refine Ext.drewN ?_ _) | (with_reducible refine Ext.alloc ?_ _) | (with_reducible assumption) | ((with_reducible refine Ext.setCell ?_ ?_ _); rotate_left; (first | exact Nat.le_refl _ | ((try dsimp only); (try simp only [World.size_alloc, grow_size, World.size_setCell]); omega)))))⟩
        | true =>
          have HE : Hid (getR x0 x1 x2 x3 = .tuple #[.agg #[.int .i64 x0, .int .i64 x1, .int .i64 (gB x0 x2 x3), .int .i64 (gC x0 x3)], .int .i64 0]) := hid (by unfold getR; rw [hRi]; rfl)
          have HRR := hid hRi
          clear hRi
          go_wp2
          rw [HNX.out]
          go_wp2
          refine wp_region_step (.rd 0 (.rd 1 (.rd 2 (.rd 3 (.rd 4 (.rd 5 (.rd 6 (.rd 7 (.rd 8 (.rd 9 (.rd 10 (.ac 11 (.ac 12 .done))))))))))))) (by kernel_rfl) (by kernel_rfl) (fun _ _ d _ _ h => by cases d <;> exact h) (by simp only [Ord.map, nthOp, List.append]; rfl) ?_
          intro d0
          repeat' (first | (refine step_read (by rfl) (fun K hK => ?_); go_big_quiet_op; refine hK _ ?_; clear hK K) | (refine step_act (by rfl) (fun K hK => ?_); go_wp2_with (first | fail); refine ⟨_, Ext.refl _, (by repeat (first | (with_reducible exact Ext.refl _) | (with_reducible refine Ext.undrew ?_) | (with_reducible refine Ext.grow ?_ _) | (with_reducible refine Ext.drew ?_) | (with_reducible refine Ext.drewN ?_ _) | (with_reducible refine Ext.alloc ?_ _) | (with_reducible assumption) | ((with_reducible refine Ext.setCell ?_ ?_ _); rotate_left; (first | exact Nat.le_refl _ | ((try dsimp only); (try simp only [World.size_alloc, grow_size, World.size_setCell]); omega))))), ?_⟩) | refine step_br ?_ ?_)
          all_goals refine step_nil ?_
          go_wp2_with (go_at_call 17; refine (right_ _ _ _ _ _).mono ?_; rw [HRR.out]; rintro e w1 ⟨rfl, hy⟩; obtain ⟨d, rfl⟩ := hy.grown; clear hy)
          exact bodyPost_ret (v := .tuple #[.agg #[.int .i64 x0, .int .i64 x1, .int .i64 (gB x0 x2 x3), .int .i64 (gC x0 x3)], .int .i64 0]) (by simp [results, Try.results11, go_sem, *]) rfl ⟨HE.out.symm ▸ rfl, (by repeat (first | (with_reducible exact Ext.refl _) | (with_reducible refine Ext.undrew ?_) | (with_reducible refine Ext.grow ?_ _) | (with_reducible refine Ext.drew ?_) | (with_reducible refine Ext.drewN ?_ _) | (with_reducible refine Ext.alloc ?_ _) | (with_reducible assumption) | ((with_reducible refine Ext.setCell ?_ ?_ _); rotate_left; (first | exact Nat.le_refl _ | ((try dsimp only); (try simp only [World.size_alloc, grow_size, World.size_setCell]); omega)))))⟩


end Go.Proofs.Ytcbniifpbcgamaa
