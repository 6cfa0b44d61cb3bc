/- Layer 7: the document's memory, third part. -/
import Derived.Test.YtgpeabbbeidhpaaTagT
import Derived.Test.YtgpeabbbeidhpaaStepM
namespace Go.Proofs.Ytgpeabbbeidhpaa
set_option linter.unusedSimpArgs false
set_option linter.unusedVariables false
open Go.RowKit

/-- A row that was made: n times one value. -/
structure Made (w : World) (g n : Nat) (z : Value) : Prop where
  lt : g < w.heap.size
  at_ : ∀ k, k < n → w.cell? ⟨g, k, none⟩ = some z ∧ w.frozen? ⟨g, k, none⟩ = false
theorem Made.ext {w w' : World} {g n : Nat} {z : Value} (h : Made w g n z) (x : Ext w w') : Made w' g n z :=
  ⟨Nat.lt_of_lt_of_le h.lt x.size, fun k hk => ⟨(x.cells g _ h.lt).trans (h.at_ k hk).1, (x.frozens g _ h.lt).trans (h.at_ k hk).2⟩⟩
theorem made_of {w : World} {base g m : Nat} {e : TypeId} {z : Value} (h : w.ownsRow base e 1 (.slice (some ⟨g, 0, none⟩) m m) m (madeCells #[z] m).toList) : Made w g m z := by
  rcases h.2 with ⟨h0, _⟩ | ⟨g', cap, cur, hv, _, hg, _, _, hs, ht⟩
  · injection h0 with e; cases e
  · injection hv with e1 e2 e3
    injection e1 with e1
    injection e1 with e1
    subst e1
    refine ⟨(Array.getElem?_eq_some_iff.1 hg).1, fun k hk => ⟨?_, by simp [World.frozen?, hg]⟩⟩
    rw [h.cellAt k (by omega)]
    rw [toList_madeCells_one]
    simp [hk]
/-- 'make' at one operation, of elements of one cell. -/
theorem wp_make1 {P : Program} {o : Oper} {a : Act} {w : World} {K : Act → World → Prop} {Q : Exit → Act → World → Prop} (t : TypeId) (l c : Operand) (hop : o.op = Op.makeSlice t l c) (e : TypeId) (i : TypeInfo) (z : Value) (h1 : P.underlying t = some (.slice e)) (h2 : P.info? e = some i) (h3 : i.zero = some z) (hz : z.cells = #[z]) (h4 : i.size = 1)
    (L : Int) (n : Nat) (hl : a.eval l = .int .i64 L) (hc : a.eval c = .int .i64 L) (hL : L = (n : Int)) (b2 : i.bytes * n ≤ 281474976710656) (b3 : n ≤ maxLen)
    (hK : ∀ w', Ext w w' → Made w' w.heap.size n z → K (a.put o.dst (.slice (some ⟨w.heap.size, 0, none⟩) n n)) w') : o.wp P a w K Q := by
  obtain ⟨w', hrun, r1, r2⟩ := run_make_full (P := P) w w.heap.size t e i z 1 h1 h2 h3 h4 .i64 .i64 n b2 b3 (Nat.le_refl _)
  subst hL
  rw [hz, Nat.mul_one] at r1
  unfold Oper.wp
  simp [execOp, hop, hl, hc, hrun, Result.andThen]
  exact hK _ ⟨r2.os, r2.tape, r2.output, r2.size, fun k hk => r2.block k hk (by simp)⟩ (made_of r1)
theorem info_bool1 : (Try.prog.info? 4).map (fun i => (i.zero, i.size, i.bytes)) = some (some (.bool false), 1, 1) := by kernel_rfl
def RNewIs (n : Nat) (w : World) (e : Ending) (w' : World) : Prop := ∃ r gb gt gp, e = .returned (.pointer (some ⟨r, 0, none⟩)) ∧ Hid (Rm w' r gb gt gp n (256 * n) (16 * n) (fun _ => 0) (fun _ => false) (fun _ => false)) ∧ Ext w w' ∧ w.heap.size ≤ r ∧ w.heap.size ≤ gb ∧ w.heap.size ≤ gt ∧ w.heap.size ≤ gp
set_option maxRecDepth 100000 in
set_option maxHeartbeats 4000000 in
theorem rmnew_no (k : Int) (w : World) (hk : k < 1 ∨ 65536 < k) : Calls Try.prog 11 #[.int .i64 k] w fun e w' => e = .returned (.pointer none) ∧ w = w' := by
  by_cases h1 : k < 1
  · clear hk
    go_enter Try.func11, Try.ntmps11
    go_wp2
    go_ret
    exact ⟨rfl, rfl⟩
  · have h2 : 65536 < k := by omega
    clear hk
    go_enter Try.func11, Try.ntmps11
    go_wp2
    go_ret
    exact ⟨rfl, rfl⟩
set_option maxRecDepth 100000 in
set_option maxHeartbeats 4000000 in
theorem rmnew_ (n : Nat) (w : World) (h1 : 1 ≤ n) (h2 : n ≤ 65536) : Calls Try.prog 11 #[.int .i64 (n : Int)] w fun e w' => RNewIs n w e w' := by
  obtain ⟨u0, hu, uz0, uz1, uz2⟩ := info_parts info_u8
  obtain ⟨b0, hb, bz0, bz1, bz2⟩ := info_parts info_bool1
  have k1 : ¬ (n : Int) < 1 := by omega
  have k2 : ¬ (65536 : Int) < (n : Int) := by omega
  have HBD := hid (And.intro h1 h2)
  go_enter Try.func11, Try.ntmps11
  go_upto_region 3 with (fail)
  refine wp_region_many (.rd 0 (.rd 1 (.rd 3 (.rd 4 (.rd 6 (.way 2 (.way 5 (.way 7 (.rd 8 (.way 9 (.rd 10 .done) .stop)) .stop) (.way 7 (.way 5 (.rd 8 (.way 9 (.rd 10 .done) .stop)) .stop) .stop)) (.way 5 (.way 2 (.way 7 (.rd 8 (.way 9 (.rd 10 .done) .stop)) .stop) (.way 7 (.way 2 (.rd 8 (.way 9 (.rd 10 .done) .stop)) .stop) .stop)) (.way 7 (.way 2 (.way 5 (.rd 8 (.way 9 (.rd 10 .done) .stop)) .stop) (.way 5 (.way 2 (.rd 8 (.way 9 (.rd 10 .done) .stop)) .stop) .stop)) .stop)))))))) (by kernel_rfl) (by kernel_rfl) (fun _ _ d _ _ h => by cases d <;> exact h) (by simp only [OrdM.map, nthOp, List.append]; rfl) ?_
  intro d0
  repeat (refine many_read (by rfl) (fun K hK => ?_); go_big_quiet_op; refine hK _ ?_; clear hK K)
  refine many_way (by rfl) (fun K hK => ?_) ?_
  · refine wp_make1 29 (.tmp 10) (.tmp 10) rfl 5 u0 (.int .u8 0) Try.underlying29 hu uz0 rfl uz1 _ (256 * n) rfl rfl (by omega) (by rw [uz2]; omega) (by unfold maxLen; omega) ?_
    intro w1 hx1 MB0
    have MB := hid MB0
    clear MB0
    have hz1 := hx1.size
    have HX1 := hid (Ext.trans (Ext.grow (Ext.refl w) d0) hx1)
    obtain ⟨gb, hgB⟩ : ∃ x, (Go.Proofs.Ytgpeabbbeidhpaa.grow w d0).heap.size = x := ⟨_, rfl⟩
    rw [hgB] at MB ⊢
    have hlB := MB.out.lt
    refine hK _ _ ⟨w1, hx1, Ext.refl _, ?_⟩
    clear hK K
    simp only [Act.put, List.setIfInBounds_toArray, List.set_cons_zero, List.set_cons_succ]
    refine many_way (by rfl) (fun K hK => ?_) ?_
    · refine wp_make1 55 (.tmp 13) (.tmp 13) rfl 4 b0 (.bool false) Try.underlying55 hb bz0 rfl bz1 _ (16 * n) rfl rfl (by omega) (by rw [bz2]; omega) (by unfold maxLen; omega) ?_
      intro w2 hx2 MT0
      have MT := hid MT0
      clear MT0
      replace MB := hid (MB.out.ext hx2)
      have hz2 := hx2.size
      have HX2 := hid (HX1.out.trans hx2)
      obtain ⟨gt, hgT⟩ : ∃ x, w1.heap.size = x := ⟨_, rfl⟩
      rw [hgT] at MT ⊢
      have hlT := MT.out.lt
      refine hK _ _ ⟨w2, hx2, Ext.refl _, ?_⟩
      clear hK K
      simp only [Act.put, List.setIfInBounds_toArray, List.set_cons_zero, List.set_cons_succ]
      refine many_way (by rfl) (fun K hK => ?_) ?_
      · refine wp_make1 55 (.tmp 15) (.tmp 15) rfl 4 b0 (.bool false) Try.underlying55 hb bz0 rfl bz1 _ n rfl rfl (by omega) (by rw [bz2]; omega) (by unfold maxLen; omega) ?_
        intro w3 hx3 MD0
        have MD := hid MD0
        clear MD0
        replace MB := hid (MB.out.ext hx3)
        replace MT := hid (MT.out.ext hx3)
        have hz3 := hx3.size
        have HX3 := hid (HX2.out.trans hx3)
        obtain ⟨gp, hgD⟩ : ∃ x, w2.heap.size = x := ⟨_, rfl⟩
        rw [hgD] at MD ⊢
        have hlD := MD.out.lt
        refine hK _ _ ⟨w3, hx3, Ext.refl _, ?_⟩
        clear hK K
        simp only [Act.put, List.setIfInBounds_toArray, List.set_cons_zero, List.set_cons_succ]
        repeat (refine many_read (by rfl) (fun K hK => ?_); go_big_quiet_op; refine hK _ ?_; clear hK K)
        refine many_way (by rfl) (fun K hK => ?_) many_stop
        go_wp2_with fail
        refine ⟨_, (by repeat (first | (with_reducible exact Ext.refl _) | (with_reducible refine Ext.undrew ?_) | (with_reducible refine Ext.grow ?_ _) | (with_reducible refine Ext.drew ?_) | (with_reducible refine Ext.drewN ?_ _) | (with_reducible refine Ext.alloc ?_ _) | (with_reducible assumption) | ((with_reducible refine Ext.setCell ?_ ?_ _); rotate_left; (first | exact Nat.le_refl _ | ((try dsimp only); (try simp only [World.size_alloc, grow_size, World.size_setCell]); omega))))), Ext.refl _, ?_⟩
        repeat (refine many_read (by rfl) (fun K hK => ?_); go_big_quiet_op; refine hK _ ?_; clear hK K)
        refine many_nil ?_
        simp only [grow_size] at hgB hgT hgD
        have hlB := MB.out.lt
        have hlT := MT.out.lt
        have hlD := MD.out.lt
        have hzw := HX3.out.size
        go_wp2
        go_ret
        have x := Ext.alloc (Ext.refl w3) (.cells #[.slice (some ⟨gb, 0, none⟩) (256 * n) (256 * n), .slice (some ⟨gt, 0, none⟩) (16 * n) (16 * n), .slice (some ⟨gp, 0, none⟩) n n] 57)
        refine ⟨w3.heap.size, gb, gt, gp, rfl, hid ⟨by simp, by simp; omega, by simp; omega, by simp; omega, ⟨by omega, by omega, by omega, by omega, by omega, by omega⟩, by simp [go_sem], by simp [go_sem], by simp [go_sem], (MB.out.ext x).at_, (MT.out.ext x).at_, (MD.out.ext x).at_, HBD.out, rfl, rfl, fun _ => ⟨Int.le_refl _, by decide⟩⟩, HX3.out.trans x, by omega, by omega, by omega, by omega⟩
      exact many_stop
    refine many_way (by rfl) (fun K hK => ?_) ?_
    · refine wp_make1 55 (.tmp 15) (.tmp 15) rfl 4 b0 (.bool false) Try.underlying55 hb bz0 rfl bz1 _ n rfl rfl (by omega) (by rw [bz2]; omega) (by unfold maxLen; omega) ?_
      intro w2 hx2 MD0
      have MD := hid MD0
      clear MD0
      replace MB := hid (MB.out.ext hx2)
      have hz2 := hx2.size
      have HX2 := hid (HX1.out.trans hx2)
      obtain ⟨gp, hgD⟩ : ∃ x, w1.heap.size = x := ⟨_, rfl⟩
      rw [hgD] at MD ⊢
      have hlD := MD.out.lt
      refine hK _ _ ⟨w2, hx2, Ext.refl _, ?_⟩
      clear hK K
      simp only [Act.put, List.setIfInBounds_toArray, List.set_cons_zero, List.set_cons_succ]
      refine many_way (by rfl) (fun K hK => ?_) ?_
      · refine wp_make1 55 (.tmp 13) (.tmp 13) rfl 4 b0 (.bool false) Try.underlying55 hb bz0 rfl bz1 _ (16 * n) rfl rfl (by omega) (by rw [bz2]; omega) (by unfold maxLen; omega) ?_
        intro w3 hx3 MT0
        have MT := hid MT0
        clear MT0
        replace MB := hid (MB.out.ext hx3)
        replace MD := hid (MD.out.ext hx3)
        have hz3 := hx3.size
        have HX3 := hid (HX2.out.trans hx3)
        obtain ⟨gt, hgT⟩ : ∃ x, w2.heap.size = x := ⟨_, rfl⟩
        rw [hgT] at MT ⊢
        have hlT := MT.out.lt
        refine hK _ _ ⟨w3, hx3, Ext.refl _, ?_⟩
        clear hK K
        simp only [Act.put, List.setIfInBounds_toArray, List.set_cons_zero, List.set_cons_succ]
        repeat (refine many_read (by rfl) (fun K hK => ?_); go_big_quiet_op; refine hK _ ?_; clear hK K)
        refine many_way (by rfl) (fun K hK => ?_) many_stop
        go_wp2_with fail
        refine ⟨_, (by repeat (first | (with_reducible exact Ext.refl _) | (with_reducible refine Ext.undrew ?_) | (with_reducible refine Ext.grow ?_ _) | (with_reducible refine Ext.drew ?_) | (with_reducible refine Ext.drewN ?_ _) | (with_reducible refine Ext.alloc ?_ _) | (with_reducible assumption) | ((with_reducible refine Ext.setCell ?_ ?_ _); rotate_left; (first | exact Nat.le_refl _ | ((try dsimp only); (try simp only [World.size_alloc, grow_size, World.size_setCell]); omega))))), Ext.refl _, ?_⟩
        repeat (refine many_read (by rfl) (fun K hK => ?_); go_big_quiet_op; refine hK _ ?_; clear hK K)
        refine many_nil ?_
        simp only [grow_size] at hgB hgT hgD
        have hlB := MB.out.lt
        have hlT := MT.out.lt
        have hlD := MD.out.lt
        have hzw := HX3.out.size
        go_wp2
        go_ret
        have x := Ext.alloc (Ext.refl w3) (.cells #[.slice (some ⟨gb, 0, none⟩) (256 * n) (256 * n), .slice (some ⟨gt, 0, none⟩) (16 * n) (16 * n), .slice (some ⟨gp, 0, none⟩) n n] 57)
        refine ⟨w3.heap.size, gb, gt, gp, rfl, hid ⟨by simp, by simp; omega, by simp; omega, by simp; omega, ⟨by omega, by omega, by omega, by omega, by omega, by omega⟩, by simp [go_sem], by simp [go_sem], by simp [go_sem], (MB.out.ext x).at_, (MT.out.ext x).at_, (MD.out.ext x).at_, HBD.out, rfl, rfl, fun _ => ⟨Int.le_refl _, by decide⟩⟩, HX3.out.trans x, by omega, by omega, by omega, by omega⟩
      exact many_stop
    exact many_stop
  refine many_way (by rfl) (fun K hK => ?_) ?_
  · refine wp_make1 55 (.tmp 13) (.tmp 13) rfl 4 b0 (.bool false) Try.underlying55 hb bz0 rfl bz1 _ (16 * n) rfl rfl (by omega) (by rw [bz2]; omega) (by unfold maxLen; omega) ?_
    intro w1 hx1 MT0
    have MT := hid MT0
    clear MT0
    have hz1 := hx1.size
    have HX1 := hid (Ext.trans (Ext.grow (Ext.refl w) d0) hx1)
    obtain ⟨gt, hgT⟩ : ∃ x, (Go.Proofs.Ytgpeabbbeidhpaa.grow w d0).heap.size = x := ⟨_, rfl⟩
    rw [hgT] at MT ⊢
    have hlT := MT.out.lt
    refine hK _ _ ⟨w1, hx1, Ext.refl _, ?_⟩
    clear hK K
    simp only [Act.put, List.setIfInBounds_toArray, List.set_cons_zero, List.set_cons_succ]
    refine many_way (by rfl) (fun K hK => ?_) ?_
    · refine wp_make1 29 (.tmp 10) (.tmp 10) rfl 5 u0 (.int .u8 0) Try.underlying29 hu uz0 rfl uz1 _ (256 * n) rfl rfl (by omega) (by rw [uz2]; omega) (by unfold maxLen; omega) ?_
      intro w2 hx2 MB0
      have MB := hid MB0
      clear MB0
      replace MT := hid (MT.out.ext hx2)
      have hz2 := hx2.size
      have HX2 := hid (HX1.out.trans hx2)
      obtain ⟨gb, hgB⟩ : ∃ x, w1.heap.size = x := ⟨_, rfl⟩
      rw [hgB] at MB ⊢
      have hlB := MB.out.lt
      refine hK _ _ ⟨w2, hx2, Ext.refl _, ?_⟩
      clear hK K
      simp only [Act.put, List.setIfInBounds_toArray, List.set_cons_zero, List.set_cons_succ]
      refine many_way (by rfl) (fun K hK => ?_) ?_
      · refine wp_make1 55 (.tmp 15) (.tmp 15) rfl 4 b0 (.bool false) Try.underlying55 hb bz0 rfl bz1 _ n rfl rfl (by omega) (by rw [bz2]; omega) (by unfold maxLen; omega) ?_
        intro w3 hx3 MD0
        have MD := hid MD0
        clear MD0
        replace MT := hid (MT.out.ext hx3)
        replace MB := hid (MB.out.ext hx3)
        have hz3 := hx3.size
        have HX3 := hid (HX2.out.trans hx3)
        obtain ⟨gp, hgD⟩ : ∃ x, w2.heap.size = x := ⟨_, rfl⟩
        rw [hgD] at MD ⊢
        have hlD := MD.out.lt
        refine hK _ _ ⟨w3, hx3, Ext.refl _, ?_⟩
        clear hK K
        simp only [Act.put, List.setIfInBounds_toArray, List.set_cons_zero, List.set_cons_succ]
        repeat (refine many_read (by rfl) (fun K hK => ?_); go_big_quiet_op; refine hK _ ?_; clear hK K)
        refine many_way (by rfl) (fun K hK => ?_) many_stop
        go_wp2_with fail
        refine ⟨_, (by repeat (first | (with_reducible exact Ext.refl _) | (with_reducible refine Ext.undrew ?_) | (with_reducible refine Ext.grow ?_ _) | (with_reducible refine Ext.drew ?_) | (with_reducible refine Ext.drewN ?_ _) | (with_reducible refine Ext.alloc ?_ _) | (with_reducible assumption) | ((with_reducible refine Ext.setCell ?_ ?_ _); rotate_left; (first | exact Nat.le_refl _ | ((try dsimp only); (try simp only [World.size_alloc, grow_size, World.size_setCell]); omega))))), Ext.refl _, ?_⟩
        repeat (refine many_read (by rfl) (fun K hK => ?_); go_big_quiet_op; refine hK _ ?_; clear hK K)
        refine many_nil ?_
        simp only [grow_size] at hgB hgT hgD
        have hlB := MB.out.lt
        have hlT := MT.out.lt
        have hlD := MD.out.lt
        have hzw := HX3.out.size
        go_wp2
        go_ret
        have x := Ext.alloc (Ext.refl w3) (.cells #[.slice (some ⟨gb, 0, none⟩) (256 * n) (256 * n), .slice (some ⟨gt, 0, none⟩) (16 * n) (16 * n), .slice (some ⟨gp, 0, none⟩) n n] 57)
        refine ⟨w3.heap.size, gb, gt, gp, rfl, hid ⟨by simp, by simp; omega, by simp; omega, by simp; omega, ⟨by omega, by omega, by omega, by omega, by omega, by omega⟩, by simp [go_sem], by simp [go_sem], by simp [go_sem], (MB.out.ext x).at_, (MT.out.ext x).at_, (MD.out.ext x).at_, HBD.out, rfl, rfl, fun _ => ⟨Int.le_refl _, by decide⟩⟩, HX3.out.trans x, by omega, by omega, by omega, by omega⟩
      exact many_stop
    refine many_way (by rfl) (fun K hK => ?_) ?_
    · refine wp_make1 55 (.tmp 15) (.tmp 15) rfl 4 b0 (.bool false) Try.underlying55 hb bz0 rfl bz1 _ n rfl rfl (by omega) (by rw [bz2]; omega) (by unfold maxLen; omega) ?_
      intro w2 hx2 MD0
      have MD := hid MD0
      clear MD0
      replace MT := hid (MT.out.ext hx2)
      have hz2 := hx2.size
      have HX2 := hid (HX1.out.trans hx2)
      obtain ⟨gp, hgD⟩ : ∃ x, w1.heap.size = x := ⟨_, rfl⟩
      rw [hgD] at MD ⊢
      have hlD := MD.out.lt
      refine hK _ _ ⟨w2, hx2, Ext.refl _, ?_⟩
      clear hK K
      simp only [Act.put, List.setIfInBounds_toArray, List.set_cons_zero, List.set_cons_succ]
      refine many_way (by rfl) (fun K hK => ?_) ?_
      · refine wp_make1 29 (.tmp 10) (.tmp 10) rfl 5 u0 (.int .u8 0) Try.underlying29 hu uz0 rfl uz1 _ (256 * n) rfl rfl (by omega) (by rw [uz2]; omega) (by unfold maxLen; omega) ?_
        intro w3 hx3 MB0
        have MB := hid MB0
        clear MB0
        replace MT := hid (MT.out.ext hx3)
        replace MD := hid (MD.out.ext hx3)
        have hz3 := hx3.size
        have HX3 := hid (HX2.out.trans hx3)
        obtain ⟨gb, hgB⟩ : ∃ x, w2.heap.size = x := ⟨_, rfl⟩
        rw [hgB] at MB ⊢
        have hlB := MB.out.lt
        refine hK _ _ ⟨w3, hx3, Ext.refl _, ?_⟩
        clear hK K
        simp only [Act.put, List.setIfInBounds_toArray, List.set_cons_zero, List.set_cons_succ]
        repeat (refine many_read (by rfl) (fun K hK => ?_); go_big_quiet_op; refine hK _ ?_; clear hK K)
        refine many_way (by rfl) (fun K hK => ?_) many_stop
        go_wp2_with fail
        refine ⟨_, (by repeat (first | (with_reducible exact Ext.refl _) | (with_reducible refine Ext.undrew ?_) | (with_reducible refine Ext.grow ?_ _) | (with_reducible refine Ext.drew ?_) | (with_reducible refine Ext.drewN ?_ _) | (with_reducible refine Ext.alloc ?_ _) | (with_reducible assumption) | ((with_reducible refine Ext.setCell ?_ ?_ _); rotate_left; (first | exact Nat.le_refl _ | ((try dsimp only); (try simp only [World.size_alloc, grow_size, World.size_setCell]); omega))))), Ext.refl _, ?_⟩
        repeat (refine many_read (by rfl) (fun K hK => ?_); go_big_quiet_op; refine hK _ ?_; clear hK K)
        refine many_nil ?_
        simp only [grow_size] at hgB hgT hgD
        have hlB := MB.out.lt
        have hlT := MT.out.lt
        have hlD := MD.out.lt
        have hzw := HX3.out.size
        go_wp2
        go_ret
        have x := Ext.alloc (Ext.refl w3) (.cells #[.slice (some ⟨gb, 0, none⟩) (256 * n) (256 * n), .slice (some ⟨gt, 0, none⟩) (16 * n) (16 * n), .slice (some ⟨gp, 0, none⟩) n n] 57)
        refine ⟨w3.heap.size, gb, gt, gp, rfl, hid ⟨by simp, by simp; omega, by simp; omega, by simp; omega, ⟨by omega, by omega, by omega, by omega, by omega, by omega⟩, by simp [go_sem], by simp [go_sem], by simp [go_sem], (MB.out.ext x).at_, (MT.out.ext x).at_, (MD.out.ext x).at_, HBD.out, rfl, rfl, fun _ => ⟨Int.le_refl _, by decide⟩⟩, HX3.out.trans x, by omega, by omega, by omega, by omega⟩
      exact many_stop
    exact many_stop
  refine many_way (by rfl) (fun K hK => ?_) ?_
  · refine wp_make1 55 (.tmp 15) (.tmp 15) rfl 4 b0 (.bool false) Try.underlying55 hb bz0 rfl bz1 _ n rfl rfl (by omega) (by rw [bz2]; omega) (by unfold maxLen; omega) ?_
    intro w1 hx1 MD0
    have MD := hid MD0
    clear MD0
    have hz1 := hx1.size
    have HX1 := hid (Ext.trans (Ext.grow (Ext.refl w) d0) hx1)
    obtain ⟨gp, hgD⟩ : ∃ x, (Go.Proofs.Ytgpeabbbeidhpaa.grow w d0).heap.size = x := ⟨_, rfl⟩
    rw [hgD] at MD ⊢
    have hlD := MD.out.lt
    refine hK _ _ ⟨w1, hx1, Ext.refl _, ?_⟩
    clear hK K
    simp only [Act.put, List.setIfInBounds_toArray, List.set_cons_zero, List.set_cons_succ]
    refine many_way (by rfl) (fun K hK => ?_) ?_
    · refine wp_make1 29 (.tmp 10) (.tmp 10) rfl 5 u0 (.int .u8 0) Try.underlying29 hu uz0 rfl uz1 _ (256 * n) rfl rfl (by omega) (by rw [uz2]; omega) (by unfold maxLen; omega) ?_
      intro w2 hx2 MB0
      have MB := hid MB0
      clear MB0
      replace MD := hid (MD.out.ext hx2)
      have hz2 := hx2.size
      have HX2 := hid (HX1.out.trans hx2)
      obtain ⟨gb, hgB⟩ : ∃ x, w1.heap.size = x := ⟨_, rfl⟩
      rw [hgB] at MB ⊢
      have hlB := MB.out.lt
      refine hK _ _ ⟨w2, hx2, Ext.refl _, ?_⟩
      clear hK K
      simp only [Act.put, List.setIfInBounds_toArray, List.set_cons_zero, List.set_cons_succ]
      refine many_way (by rfl) (fun K hK => ?_) ?_
      · refine wp_make1 55 (.tmp 13) (.tmp 13) rfl 4 b0 (.bool false) Try.underlying55 hb bz0 rfl bz1 _ (16 * n) rfl rfl (by omega) (by rw [bz2]; omega) (by unfold maxLen; omega) ?_
        intro w3 hx3 MT0
        have MT := hid MT0
        clear MT0
        replace MD := hid (MD.out.ext hx3)
        replace MB := hid (MB.out.ext hx3)
        have hz3 := hx3.size
        have HX3 := hid (HX2.out.trans hx3)
        obtain ⟨gt, hgT⟩ : ∃ x, w2.heap.size = x := ⟨_, rfl⟩
        rw [hgT] at MT ⊢
        have hlT := MT.out.lt
        refine hK _ _ ⟨w3, hx3, Ext.refl _, ?_⟩
        clear hK K
        simp only [Act.put, List.setIfInBounds_toArray, List.set_cons_zero, List.set_cons_succ]
        repeat (refine many_read (by rfl) (fun K hK => ?_); go_big_quiet_op; refine hK _ ?_; clear hK K)
        refine many_way (by rfl) (fun K hK => ?_) many_stop
        go_wp2_with fail
        refine ⟨_, (by repeat (first | (with_reducible exact Ext.refl _) | (with_reducible refine Ext.undrew ?_) | (with_reducible refine Ext.grow ?_ _) | (with_reducible refine Ext.drew ?_) | (with_reducible refine Ext.drewN ?_ _) | (with_reducible refine Ext.alloc ?_ _) | (with_reducible assumption) | ((with_reducible refine Ext.setCell ?_ ?_ _); rotate_left; (first | exact Nat.le_refl _ | ((try dsimp only); (try simp only [World.size_alloc, grow_size, World.size_setCell]); omega))))), Ext.refl _, ?_⟩
        repeat (refine many_read (by rfl) (fun K hK => ?_); go_big_quiet_op; refine hK _ ?_; clear hK K)
        refine many_nil ?_
        simp only [grow_size] at hgB hgT hgD
        have hlB := MB.out.lt
        have hlT := MT.out.lt
        have hlD := MD.out.lt
        have hzw := HX3.out.size
        go_wp2
        go_ret
        have x := Ext.alloc (Ext.refl w3) (.cells #[.slice (some ⟨gb, 0, none⟩) (256 * n) (256 * n), .slice (some ⟨gt, 0, none⟩) (16 * n) (16 * n), .slice (some ⟨gp, 0, none⟩) n n] 57)
        refine ⟨w3.heap.size, gb, gt, gp, rfl, hid ⟨by simp, by simp; omega, by simp; omega, by simp; omega, ⟨by omega, by omega, by omega, by omega, by omega, by omega⟩, by simp [go_sem], by simp [go_sem], by simp [go_sem], (MB.out.ext x).at_, (MT.out.ext x).at_, (MD.out.ext x).at_, HBD.out, rfl, rfl, fun _ => ⟨Int.le_refl _, by decide⟩⟩, HX3.out.trans x, by omega, by omega, by omega, by omega⟩
      exact many_stop
    refine many_way (by rfl) (fun K hK => ?_) ?_
    · refine wp_make1 55 (.tmp 13) (.tmp 13) rfl 4 b0 (.bool false) Try.underlying55 hb bz0 rfl bz1 _ (16 * n) rfl rfl (by omega) (by rw [bz2]; omega) (by unfold maxLen; omega) ?_
      intro w2 hx2 MT0
      have MT := hid MT0
      clear MT0
      replace MD := hid (MD.out.ext hx2)
      have hz2 := hx2.size
      have HX2 := hid (HX1.out.trans hx2)
      obtain ⟨gt, hgT⟩ : ∃ x, w1.heap.size = x := ⟨_, rfl⟩
      rw [hgT] at MT ⊢
      have hlT := MT.out.lt
      refine hK _ _ ⟨w2, hx2, Ext.refl _, ?_⟩
      clear hK K
      simp only [Act.put, List.setIfInBounds_toArray, List.set_cons_zero, List.set_cons_succ]
      refine many_way (by rfl) (fun K hK => ?_) ?_
      · refine wp_make1 29 (.tmp 10) (.tmp 10) rfl 5 u0 (.int .u8 0) Try.underlying29 hu uz0 rfl uz1 _ (256 * n) rfl rfl (by omega) (by rw [uz2]; omega) (by unfold maxLen; omega) ?_
        intro w3 hx3 MB0
        have MB := hid MB0
        clear MB0
        replace MD := hid (MD.out.ext hx3)
        replace MT := hid (MT.out.ext hx3)
        have hz3 := hx3.size
        have HX3 := hid (HX2.out.trans hx3)
        obtain ⟨gb, hgB⟩ : ∃ x, w2.heap.size = x := ⟨_, rfl⟩
        rw [hgB] at MB ⊢
        have hlB := MB.out.lt
        refine hK _ _ ⟨w3, hx3, Ext.refl _, ?_⟩
        clear hK K
        simp only [Act.put, List.setIfInBounds_toArray, List.set_cons_zero, List.set_cons_succ]
        repeat (refine many_read (by rfl) (fun K hK => ?_); go_big_quiet_op; refine hK _ ?_; clear hK K)
        refine many_way (by rfl) (fun K hK => ?_) many_stop
        go_wp2_with fail
        refine ⟨_, (by repeat (first | (with_reducible exact Ext.refl _) | (with_reducible refine Ext.undrew ?_) | (with_reducible refine Ext.grow ?_ _) | (with_reducible refine Ext.drew ?_) | (with_reducible refine Ext.drewN ?_ _) | (with_reducible refine Ext.alloc ?_ _) | (with_reducible assumption) | ((with_reducible refine Ext.setCell ?_ ?_ _); rotate_left; (first | exact Nat.le_refl _ | ((try dsimp only); (try simp only [World.size_alloc, grow_size, World.size_setCell]); omega))))), Ext.refl _, ?_⟩
        repeat (refine many_read (by rfl) (fun K hK => ?_); go_big_quiet_op; refine hK _ ?_; clear hK K)
        refine many_nil ?_
        simp only [grow_size] at hgB hgT hgD
        have hlB := MB.out.lt
        have hlT := MT.out.lt
        have hlD := MD.out.lt
        have hzw := HX3.out.size
        go_wp2
        go_ret
        have x := Ext.alloc (Ext.refl w3) (.cells #[.slice (some ⟨gb, 0, none⟩) (256 * n) (256 * n), .slice (some ⟨gt, 0, none⟩) (16 * n) (16 * n), .slice (some ⟨gp, 0, none⟩) n n] 57)
        refine ⟨w3.heap.size, gb, gt, gp, rfl, hid ⟨by simp, by simp; omega, by simp; omega, by simp; omega, ⟨by omega, by omega, by omega, by omega, by omega, by omega⟩, by simp [go_sem], by simp [go_sem], by simp [go_sem], (MB.out.ext x).at_, (MT.out.ext x).at_, (MD.out.ext x).at_, HBD.out, rfl, rfl, fun _ => ⟨Int.le_refl _, by decide⟩⟩, HX3.out.trans x, by omega, by omega, by omega, by omega⟩
      exact many_stop
    exact many_stop
  exact many_stop

end Go.Proofs.Ytgpeabbbeidhpaa
