/- Layer 16: Text. -/
import Derived.Test.YtdhpbofpomefoaaDoorAsmA
namespace Go.Proofs.YtdhpbofpomefoaaDoor
set_option linter.unusedSimpArgs false
set_option linter.unusedVariables false
open Go.RowKit

def argC (ch : Nat) (n : Int) : List UInt8 := if ch = 114 then 32 :: 114 :: Lib.itoa n else if ch = 105 ∨ ch = 119 then 32 :: Lib.itoa n else []
def partT (s : ByteArray) (v : Nat → Int) (i : Nat) : List UInt8 := (List.range i).flatMap fun j => argC (chAt s j) (v j)
theorem partT_zero (s : ByteArray) (v : Nat → Int) : partT s v 0 = [] := rfl
theorem partT_succ (s : ByteArray) (v : Nat → Int) (i : Nat) : partT s v (i + 1) = partT s v i ++ argC (chAt s i) (v i) := by
  unfold partT
  rw [List.range_succ, List.flatMap_append]
  simp
theorem partT_all {op a b c : Int} (h : kd op ≠ 0) : partT (kstr (kd op)) (v3 a b c) (kstr (kd op)).size = joinW (argsW op a b c) := by
  unfold argsW
  rcases kd_cases op with e | e | e | e | e | e | e | e
  · exact absurd e h
  all_goals (rw [e]; change partT _ (v3 a b c) 3 = _; rw [partT_succ, partT_succ, partT_succ, partT_zero]; unfold argC; simp [ptK, argW, joinW, v3, chAt, kstr])
theorem bstr_app (a b : List UInt8) : ((⟨a.toArray⟩ : ByteArray) ++ (⟨b.toArray⟩ : ByteArray)) = ⟨(a ++ b).toArray⟩ := by
  apply ByteArray.ext
  simp
theorem itoa_len {n : Int} (h0 : -32768 ≤ n) (h1 : n ≤ 32767) : (Lib.itoa n).length ≤ 6 := by
  rcases Int.lt_or_le n 0 with h | h
  · obtain ⟨u, rfl⟩ : ∃ u : Nat, n = -(u : Int) := ⟨n.natAbs, by omega⟩
    rw [itoa_ng u (by omega), List.length_cons]
    have := dec_len 4 u (by omega)
    omega
  · obtain ⟨u, rfl⟩ : ∃ u : Nat, n = (u : Int) := ⟨n.toNat, by omega⟩
    rw [itoa_nn]
    have := dec_len 4 u (by omega)
    omega
theorem nameL_len (op : Int) : (nameL op).length ≤ 4 := by
  by_cases h : 0 ≤ op ∧ op ≤ 29
  · have : ∀ w ∈ nmL, w.length ≤ 4 := by decide
    exact this _ (nameL_mem h)
  · rw [nameL_no h]
    simp
theorem argC_len (ch : Nat) {n : Int} (h0 : -32768 ≤ n) (h1 : n ≤ 32767) : (argC ch n).length ≤ 8 := by
  have := itoa_len h0 h1
  unfold argC
  split
  · simp only [List.length_cons]; omega
  · split
    · simp only [List.length_cons]; omega
    · simp
theorem partT_len (s : ByteArray) (v : Nat → Int) (hv : ∀ j, -32768 ≤ v j ∧ v j ≤ 32767) : ∀ i, (partT s v i).length ≤ 8 * i
  | 0 => by simp [partT]
  | i + 1 => by
    have h1 := partT_len s v hv i
    have h2 := argC_len (chAt s i) (hv i).1 (hv i).2
    rw [partT_succ, List.length_append]
    omega
theorem right_bd {op a b c : Int} (h : rightI op a b c = true) : ∀ j, -32768 ≤ v3 a b c j ∧ v3 a b c j ≤ 32767 := by
  obtain ⟨x, y, z, _, ⟨a0, a1, a2, a3⟩, ⟨b0, b1, b2, b3⟩, c0, c1, c2, c3⟩ := okK_of h
  have ha : -32768 ≤ a ∧ a ≤ 32767 := by omega
  have hb : -32768 ≤ b ∧ b ≤ 32767 := by omega
  have hc : -32768 ≤ c ∧ c ≤ 32767 := by omega
  intro j
  unfold v3
  split
  · exact ha
  · split
    · exact hb
    · exact hc
theorem itoa_ext {w w' : World} (h : ∃ k os, w' = Go.Sort.grow (w.drewN k) os) : Ext w w' := by
  obtain ⟨k, os, rfl⟩ := h
  refine ⟨rfl, rfl, rfl, by simp [Go.Sort.grow, World.drewN], fun i hi => ?_⟩
  show (w.heap ++ os)[i]? = w.heap[i]?
  rw [Array.getElem?_append_left hi]
set_option maxRecDepth 100000 in
set_option maxHeartbeats 4000000 in
theorem text_ (op a b c : Int) (w : World) (ht : Tb w) : Calls Tryd.prog 14 #[.agg #[.int .i64 op, .int .i64 a, .int .i64 b, .int .i64 c]] w fun e w' => e = .returned (.string ⟨(textL op a b c).toArray⟩) ∧ Ext w w' := by
  have HT := hid ht
  clear ht
  cases hri : rightI op a b c with
  | false =>
    have HRI := hid hri
    have htx : textL op a b c = [] := by unfold textL; rw [if_neg (by rw [hri]; decide)]
    rw [htx]
    clear hri htx
    go_enter Tryd.func14, Tryd.ntmps14
    go_wp2_with (go_at_call 30; refine (right_ op a b c _).mono ?_; rw [HRI.out]; rintro e w1 ⟨rfl, hx1⟩)
    go_ret
    exact ⟨rfl, (Ext.alloc (Ext.refl w) _).trans hx1⟩
  | true =>
    have HRI := hid hri
    have hk0 := right_kd hri
    have HV := hid (right_bd hri)
    have htx : textL op a b c = nameL op ++ partT (kstr (kd op)) (v3 a b c) (kstr (kd op)).size := by unfold textL; rw [if_pos hri, partT_all hk0]
    rw [htx]
    have hnl := nameL_len op
    have hs3 : (kstr (kd op)).size ≤ 3 := by have := kstr_size ⟨kd op, kd_lt op⟩; simp only at this; split at this <;> omega
    have has : ∀ i, i < 3 → chAt (kstr (kd op)) i < 128 := fun i hi => kstr_ascii ⟨kd op, kd_lt op⟩ ⟨i, hi⟩
    have hK := fun w => kinds_ op w
    obtain ⟨nm, hnm⟩ : ∃ z, nameL op = z := ⟨_, rfl⟩
    have HN : Hid (∀ w, Tb w → Calls Tryd.prog 12 #[.int .i64 op] w fun e w' => e = .returned (.string ⟨nm.toArray⟩) ∧ Ext w w') := hid (fun w ht => by have := name_ op w ht; rw [hnm] at this; exact this)
    rw [hnm] at hnl ⊢
    generalize kstr (kd op) = s at hs3 has hK ⊢
    have HAS := hid has
    have HK := hid hK
    have hnl0 : nm.length ≤ 4 := hnl
    clear hri htx hk0 has hK hnm hnl
    go_enter Tryd.func14, Tryd.ntmps14
    go_upto_region 1 with (fail)
    refine wp_gen (fun V => Hid (Ext w V) ∧ Hid (Row V w.heap.size 0 [.int .i64 op, .int .i64 a, .int .i64 b, .int .i64 c])) ⟨hid (by repeat (first | (with_reducible exact Ext.refl _) | (with_reducible refine Ext.undrew ?_) | (with_reducible refine Ext.grow ?_ _) | (with_reducible refine Ext.drew ?_) | (with_reducible refine Ext.drewN ?_ _) | (with_reducible refine Ext.alloc ?_ _) | (with_reducible assumption) | ((with_reducible refine Ext.setCell ?_ ?_ _); rotate_left; (first | exact Nat.le_refl _ | ((try dsimp only); (try simp only [World.size_alloc, grow_size, World.size_setCell]); omega))))), hid (Row.new w _ _)⟩ ?_
    rintro V0 ⟨HX0, HO0⟩
    generalize w.heap.size = ob at HO0 ⊢
    have o0 : World.cell? V0 ⟨ob, 0, none⟩ = some (.int .i64 op) := by have := HO0.out.at_ 0 _ rfl; simpa using this
    have o1 : World.cell? V0 ⟨ob, 1, none⟩ = some (.int .i64 a) := by have := HO0.out.at_ 1 _ rfl; simpa using this
    have o2 : World.cell? V0 ⟨ob, 2, none⟩ = some (.int .i64 b) := by have := HO0.out.at_ 2 _ rfl; simpa using this
    have o3 : World.cell? V0 ⟨ob, 3, none⟩ = some (.int .i64 c) := by have := HO0.out.at_ 3 _ rfl; simpa using this
    have ol := HO0.out.lt
    go_upto_region 3 with (go_at_call 30; refine (right_ op a b c _).mono ?_; rw [HRI.out]; rintro e w1 ⟨rfl, hx1⟩)
    have HO1 := hid (HO0.out.ext hx1)
    have HX1 := hid (HX0.out.trans hx1)
    clear HO0 HX0 hx1 o0 o1 o2 o3 ol
    have o0 : World.cell? w1 ⟨ob, 0, none⟩ = some (.int .i64 op) := by have := HO1.out.at_ 0 _ rfl; simpa using this
    have o1 : World.cell? w1 ⟨ob, 1, none⟩ = some (.int .i64 a) := by have := HO1.out.at_ 1 _ rfl; simpa using this
    have o2 : World.cell? w1 ⟨ob, 2, none⟩ = some (.int .i64 b) := by have := HO1.out.at_ 2 _ rfl; simpa using this
    have o3 : World.cell? w1 ⟨ob, 3, none⟩ = some (.int .i64 c) := by have := HO1.out.at_ 3 _ rfl; simpa using this
    have ol := HO1.out.lt
    go_upto_region 4 with (fail)
    refine wp_gen (fun V => Hid (Ext w V) ∧ Hid (Row V ob 0 [.int .i64 op, .int .i64 a, .int .i64 b, .int .i64 c]) ∧ Hid (Row V w1.heap.size 0 [.int .i64 a, .int .i64 b, .int .i64 c])) ⟨hid (HX1.out.trans (by repeat (first | (with_reducible exact Ext.refl _) | (with_reducible refine Ext.undrew ?_) | (with_reducible refine Ext.grow ?_ _) | (with_reducible refine Ext.drew ?_) | (with_reducible refine Ext.drewN ?_ _) | (with_reducible refine Ext.alloc ?_ _) | (with_reducible assumption) | ((with_reducible refine Ext.setCell ?_ ?_ _); rotate_left; (first | exact Nat.le_refl _ | ((try dsimp only); (try simp only [World.size_alloc, grow_size, World.size_setCell]); omega)))))), hid (HO1.out.ext (by repeat (first | (with_reducible exact Ext.refl _) | (with_reducible refine Ext.undrew ?_) | (with_reducible refine Ext.grow ?_ _) | (with_reducible refine Ext.drew ?_) | (with_reducible refine Ext.drewN ?_ _) | (with_reducible refine Ext.alloc ?_ _) | (with_reducible assumption) | ((with_reducible refine Ext.setCell ?_ ?_ _); rotate_left; (first | exact Nat.le_refl _ | ((try dsimp only); (try simp only [World.size_alloc, grow_size, World.size_setCell]); omega)))))), hid (Row.new w1 _ _)⟩ ?_
    clear HX1 HO1 o0 o1 o2 o3 ol
    rintro V2 ⟨HX2, HO2, HP2⟩
    generalize w1.heap.size = pb at HP2 ⊢
    have o0 : World.cell? V2 ⟨ob, 0, none⟩ = some (.int .i64 op) := by have := HO2.out.at_ 0 _ rfl; simpa using this
    have o1 : World.cell? V2 ⟨ob, 1, none⟩ = some (.int .i64 a) := by have := HO2.out.at_ 1 _ rfl; simpa using this
    have o2 : World.cell? V2 ⟨ob, 2, none⟩ = some (.int .i64 b) := by have := HO2.out.at_ 2 _ rfl; simpa using this
    have o3 : World.cell? V2 ⟨ob, 3, none⟩ = some (.int .i64 c) := by have := HO2.out.at_ 3 _ rfl; simpa using this
    have ol := HO2.out.lt
    go_upto_region 5 with (go_at_call 12; refine (HN.out _ (HT.out.ext (HX2.out.trans (by repeat (first | (with_reducible exact Ext.refl _) | (with_reducible refine Ext.undrew ?_) | (with_reducible refine Ext.grow ?_ _) | (with_reducible refine Ext.drew ?_) | (with_reducible refine Ext.drewN ?_ _) | (with_reducible refine Ext.alloc ?_ _) | (with_reducible assumption) | ((with_reducible refine Ext.setCell ?_ ?_ _); rotate_left; (first | exact Nat.le_refl _ | ((try dsimp only); (try simp only [World.size_alloc, grow_size, World.size_setCell]); omega)))))))).mono ?_; rintro e w2 ⟨rfl, hx2⟩)
    have HO3 := hid (HO2.out.ext hx2)
    have HP3 := hid (HP2.out.ext hx2)
    have HX3 := hid (HX2.out.trans hx2)
    clear HO2 HP2 HX2 hx2 o0 o1 o2 o3 ol HN
    have o0 : World.cell? w2 ⟨ob, 0, none⟩ = some (.int .i64 op) := by have := HO3.out.at_ 0 _ rfl; simpa using this
    have o1 : World.cell? w2 ⟨ob, 1, none⟩ = some (.int .i64 a) := by have := HO3.out.at_ 1 _ rfl; simpa using this
    have o2 : World.cell? w2 ⟨ob, 2, none⟩ = some (.int .i64 b) := by have := HO3.out.at_ 2 _ rfl; simpa using this
    have o3 : World.cell? w2 ⟨ob, 3, none⟩ = some (.int .i64 c) := by have := HO3.out.at_ 3 _ rfl; simpa using this
    have ol := HO3.out.lt
    go_wp2_with (go_at_call 25; refine (HK.out _).mono ?_; rintro e W ⟨rfl, hx3⟩)
    have HP4 := hid (HP3.out.ext hx3)
    have HX4 := hid (HX3.out.trans hx3)
    clear HO3 HP3 HX3 hx3 o0 o1 o2 o3 ol HK
    have HTW := hid (HT.out.ext HX4.out)
    have hq : pb < W.heap.size := HP4.out.lt
    go_loopw [4] (fun t wr => ∃ i : Nat, i ≤ s.size ∧ t = .string ⟨(nm ++ partT s (v3 a b c) i).toArray⟩ ∧ Hid (wr.heap[W.heap.size]? = some (.stringIter s i)) ∧ Hid (Ext W wr)) (fun _ wr => s.size - wr.iterPos W.heap.size)
    case atStart => exact ⟨0, Nat.zero_le _, by rw [partT_zero, List.append_nil], hid (World.iter_heap _ _ _), hid (Ext.alloc (Ext.refl W) _)⟩
    case round =>
      obtain ⟨i, hi, rfl, hit, hx⟩ := hrel
      by_cases hlt : i < s.size
      · have hi3 : i < 3 := by omega
        have ha := HAS.out i hi3
        have hch := chAt_get hlt
        have hps : Hid (wr.cell? ⟨pb, i, none⟩ = some (.int .i64 (v3 a b c i))) := hid ((hx.out.cells pb i hq).trans (by
          match i, hi3 with
          | 0, _ => have := HP4.out.at_ 0 _ rfl; simpa [v3] using this
          | 1, _ => have := HP4.out.at_ 1 _ rfl; simpa [v3] using this
          | 2, _ => have := HP4.out.at_ 2 _ rfl; simpa [v3] using this))
        have hc := hps.out
        have hs := hx.out.size
        have hqr : pb < wr.heap.size := by omega
        have hqn : ¬ pb = W.heap.size := by omega
        have HI0 : (0 : Int) ≤ (i : Int) := by omega
        have HI1 : (i : Int) < 3 := by omega
        have hwt : Hid ((wr.iterAt W.heap.size s (i + 1)).heap[W.heap.size]? = some (.stringIter s (i + 1))) := hid (Lib.iterAt_heap _ _ _ _ _ hit.out)
        have hxt : Hid (Ext W (wr.iterAt W.heap.size s (i + 1))) := hid (Ext.turn hx.out (Nat.le_refl _) _)
        have hct := (turn_cell wr W.heap.size (.stringIter s (i + 1)) pb i hqn).trans hc
        have hst : (wr.iterAt W.heap.size s (i + 1)).heap.size = wr.heap.size := turn_size _ _ _
        rw [← turn_iter] at hct
        have hnx := fun ty => Lib.run_next_ascii_at (P := Tryd.prog) wr W.heap.size s i ty hit.out hlt (by rw [hch]; exact ha)
        rw [hch] at hnx
        have HNX := hid hnx
        clear hnx hch hc hqn hps
        generalize wr.iterAt W.heap.size s (i + 1) = wt at hwt hxt hct hst HNX
        have hqt : pb < wt.heap.size := by omega
        have hkt : W.heap.size < wt.heap.size := (Array.getElem?_eq_some_iff.1 hwt.out).1
        have HTT := hid (HTW.out.ext hxt.out)
        have hvb := HV.out i
        obtain ⟨vi, hvi⟩ : ∃ z, v3 a b c i = z := ⟨_, rfl⟩
        have hpl := partT_len s (v3 a b c) HV.out i
        have hil := itoa_len hvb.1 hvb.2
        rw [hvi] at hct hvb hil
        obtain ⟨hv0, hv1⟩ := hvb
        obtain ⟨pt, hpt⟩ : ∃ z, partT s (v3 a b c) i = z := ⟨_, rfl⟩
        have HPT : Hid (partT s (v3 a b c) (i + 1) = pt ++ argC (chAt s i) vi) := hid (by rw [partT_succ, hpt, hvi])
        rw [hpt] at hpl ⊢
        obtain ⟨ch, hcc⟩ : ∃ z, chAt s i = z := ⟨_, rfl⟩
        rw [hcc] at HPT HNX
        have hz1 : (nm ++ pt).length ≤ 100 := by rw [List.length_append]; omega
        clear hvi hpt hcc hs hqr
        by_cases h1 : ch = 114
        · subst h1
          go_wp2
          rw [HNX.out]
          go_wp2_with (go_at_call 31; refine (Tryd.strconv_Itoa vi (by omega) (by omega) _ (HTT.out.ext (by repeat (first | (with_reducible exact Ext.refl _) | (with_reducible refine Ext.undrew ?_) | (with_reducible refine Ext.grow ?_ _) | (with_reducible refine Ext.drew ?_) | (with_reducible refine Ext.drewN ?_ _) | (with_reducible refine Ext.alloc ?_ _) | (with_reducible assumption) | ((with_reducible refine Ext.setCell ?_ ?_ _); rotate_left; (first | exact Nat.le_refl _ | ((try dsimp only); (try simp only [World.size_alloc, grow_size, World.size_setCell]); omega)))))).pw).mono ?_; rintro e w4 ⟨rfl, hg⟩; have hx4 := itoa_ext hg; obtain ⟨d4, rfl⟩ := hx4.grown; clear hg hx4)
          go_roundw
          case rel => exact ⟨i + 1, by omega, by rw [HPT.out, show (⟨#[32, 114]⟩ : ByteArray) = ⟨[32, 114].toArray⟩ from rfl, bstr_app, bstr_app]; simp [argC], hid ((grow_old wt d4 _ hkt).trans hwt.out), hid (Ext.trans hxt.out (by repeat (first | (with_reducible exact Ext.refl _) | (with_reducible refine Ext.undrew ?_) | (with_reducible refine Ext.grow ?_ _) | (with_reducible refine Ext.drew ?_) | (with_reducible refine Ext.drewN ?_ _) | (with_reducible refine Ext.alloc ?_ _) | (with_reducible assumption) | ((with_reducible refine Ext.setCell ?_ ?_ _); rotate_left; (first | exact Nat.le_refl _ | ((try dsimp only); (try simp only [World.size_alloc, grow_size, World.size_setCell]); omega))))))⟩
          case measure =>
            have e1 : wr.iterPos W.heap.size = i := by simp [World.iterPos, hit.out]
            rw [e1]
            simp only [World.iterPos]
            rw [grow_old wt d4 _ hkt, hwt.out]
            simp only
            omega
        · have hb1 : ((ch : Int) == 114) = false := by simpa using (fun e => h1 (by omega))
          by_cases h2 : ch = 105
          · subst h2
            go_wp2
            rw [HNX.out]
            go_wp2_with (go_at_call 31; refine (Tryd.strconv_Itoa vi (by omega) (by omega) _ (HTT.out.ext (by repeat (first | (with_reducible exact Ext.refl _) | (with_reducible refine Ext.undrew ?_) | (with_reducible refine Ext.grow ?_ _) | (with_reducible refine Ext.drew ?_) | (with_reducible refine Ext.drewN ?_ _) | (with_reducible refine Ext.alloc ?_ _) | (with_reducible assumption) | ((with_reducible refine Ext.setCell ?_ ?_ _); rotate_left; (first | exact Nat.le_refl _ | ((try dsimp only); (try simp only [World.size_alloc, grow_size, World.size_setCell]); omega)))))).pw).mono ?_; rintro e w4 ⟨rfl, hg⟩; have hx4 := itoa_ext hg; obtain ⟨d4, rfl⟩ := hx4.grown; clear hg hx4)
            go_roundw
            case rel => exact ⟨i + 1, by omega, by rw [HPT.out, show (⟨#[32]⟩ : ByteArray) = ⟨[32].toArray⟩ from rfl, bstr_app, bstr_app]; simp [argC], hid ((grow_old wt d4 _ hkt).trans hwt.out), hid (Ext.trans hxt.out (by repeat (first | (with_reducible exact Ext.refl _) | (with_reducible refine Ext.undrew ?_) | (with_reducible refine Ext.grow ?_ _) | (with_reducible refine Ext.drew ?_) | (with_reducible refine Ext.drewN ?_ _) | (with_reducible refine Ext.alloc ?_ _) | (with_reducible assumption) | ((with_reducible refine Ext.setCell ?_ ?_ _); rotate_left; (first | exact Nat.le_refl _ | ((try dsimp only); (try simp only [World.size_alloc, grow_size, World.size_setCell]); omega))))))⟩
            case measure =>
              have e1 : wr.iterPos W.heap.size = i := by simp [World.iterPos, hit.out]
              rw [e1]
              simp only [World.iterPos]
              rw [grow_old wt d4 _ hkt, hwt.out]
              simp only
              omega
          · have hb2 : ((ch : Int) == 105) = false := by simpa using (fun e => h2 (by omega))
            by_cases h3 : ch = 119
            · subst h3
              go_wp2
              rw [HNX.out]
              go_wp2_with (go_at_call 31; refine (Tryd.strconv_Itoa vi (by omega) (by omega) _ (HTT.out.ext (by repeat (first | (with_reducible exact Ext.refl _) | (with_reducible refine Ext.undrew ?_) | (with_reducible refine Ext.grow ?_ _) | (with_reducible refine Ext.drew ?_) | (with_reducible refine Ext.drewN ?_ _) | (with_reducible refine Ext.alloc ?_ _) | (with_reducible assumption) | ((with_reducible refine Ext.setCell ?_ ?_ _); rotate_left; (first | exact Nat.le_refl _ | ((try dsimp only); (try simp only [World.size_alloc, grow_size, World.size_setCell]); omega)))))).pw).mono ?_; rintro e w4 ⟨rfl, hg⟩; have hx4 := itoa_ext hg; obtain ⟨d4, rfl⟩ := hx4.grown; clear hg hx4)
              go_roundw
              case rel => exact ⟨i + 1, by omega, by rw [HPT.out, show (⟨#[32]⟩ : ByteArray) = ⟨[32].toArray⟩ from rfl, bstr_app, bstr_app]; simp [argC], hid ((grow_old wt d4 _ hkt).trans hwt.out), hid (Ext.trans hxt.out (by repeat (first | (with_reducible exact Ext.refl _) | (with_reducible refine Ext.undrew ?_) | (with_reducible refine Ext.grow ?_ _) | (with_reducible refine Ext.drew ?_) | (with_reducible refine Ext.drewN ?_ _) | (with_reducible refine Ext.alloc ?_ _) | (with_reducible assumption) | ((with_reducible refine Ext.setCell ?_ ?_ _); rotate_left; (first | exact Nat.le_refl _ | ((try dsimp only); (try simp only [World.size_alloc, grow_size, World.size_setCell]); omega))))))⟩
              case measure =>
                have e1 : wr.iterPos W.heap.size = i := by simp [World.iterPos, hit.out]
                rw [e1]
                simp only [World.iterPos]
                rw [grow_old wt d4 _ hkt, hwt.out]
                simp only
                omega
            · have hb3 : ((ch : Int) == 119) = false := by simpa using (fun e => h3 (by omega))
              go_wp2
              rw [HNX.out]
              go_wp2
              go_roundw
              case rel => exact ⟨i + 1, by omega, by rw [HPT.out, show argC ch vi = [] from (by unfold argC; rw [if_neg h1, if_neg (by omega)]), List.append_nil], hid (hwt.out), hid hxt.out⟩
              case measure =>
                have e1 : wr.iterPos W.heap.size = i := by simp [World.iterPos, hit.out]
                rw [e1]
                simp only [World.iterPos]
                rw [hwt.out]
                simp only
                omega
      · obtain rfl : i = s.size := by omega
        have HNX := hid fun ty => Lib.run_next_end_at (P := Tryd.prog) wr W.heap.size s s.size ty hit.out (by omega)
        go_wp2
        rw [HNX.out]
        go_wp2
        go_ret
        exact ⟨rfl, HX4.out.trans (hx.out.trans (by repeat (first | (with_reducible exact Ext.refl _) | (with_reducible refine Ext.undrew ?_) | (with_reducible refine Ext.grow ?_ _) | (with_reducible refine Ext.drew ?_) | (with_reducible refine Ext.drewN ?_ _) | (with_reducible refine Ext.alloc ?_ _) | (with_reducible assumption) | ((with_reducible refine Ext.setCell ?_ ?_ _); rotate_left; (first | exact Nat.le_refl _ | ((try dsimp only); (try simp only [World.size_alloc, grow_size, World.size_setCell]); omega))))))⟩

end Go.Proofs.YtdhpbofpomefoaaDoor
