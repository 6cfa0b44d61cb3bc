/- Layer 14: Alloc. -/
import Derived.Test.YtoeiemeffiiidaaDoorHepD
namespace Go.Proofs.YtoeiemeffiiidaaDoor
set_option linter.unusedSimpArgs false
set_option linter.unusedVariables false
open Go.RowKit

theorem Tab.only {S : Nat → Prop} {w w' : World} (k : Tab w) (y : Only S w w') (hn : ¬ S 0) : Tab w' := by
  obtain ⟨c0, c1, c2, c3, c4, c5, c6, c7, c8, c9, c10, c11, c12, c13, hl⟩ := k
  exact ⟨(y.cells 0 0 hl hn).trans c0, (y.cells 0 1 hl hn).trans c1, (y.cells 0 2 hl hn).trans c2, (y.cells 0 3 hl hn).trans c3, (y.cells 0 4 hl hn).trans c4, (y.cells 0 5 hl hn).trans c5, (y.cells 0 6 hl hn).trans c6, (y.cells 0 7 hl hn).trans c7, (y.cells 0 8 hl hn).trans c8, (y.cells 0 9 hl hn).trans c9, (y.cells 0 10 hl hn).trans c10, (y.cells 0 11 hl hn).trans c11, (y.cells 0 12 hl hn).trans c12, (y.cells 0 13 hl hn).trans c13, Nat.lt_of_lt_of_le hl y.size⟩
/-- What Alloc tells, and leaves. -/
def alOk (x : HSt) (m : Int) : Bool := roundB m && (takeF (roundT m) x.lf).1.2
def alAt (x : HSt) (m : Int) : Int := (takeF (roundT m) x.lf).1.1
def alE (x : HSt) (m : Int) : Int := if roundB m = true then (if (takeF (roundT m) x.lf).1.2 = true then 0 else 5) else 1
def alC (rp : Int) (x : HSt) (m : Int) : Cap := if alOk x m = true then ⟨true, alAt x m, alAt x m + max m 1, alAt x m, rp, 0⟩ else ⟨false, 0, 0, 0, 0, 0⟩
def HSt.al (x : HSt) (m : Int) : HSt := if alOk x m = true then { x with lf := (takeF (roundT m) x.lf).2, lv := x.lv ++ [⟨alAt x m, max m 1, roundT m⟩] } else x
theorem roundT_bdA {m : Int} (k : roundB m = true) : 16 ≤ roundT m ∧ roundT m ≤ 65536 := by
  unfold roundB at k
  simp only [Bool.and_eq_true, decide_eq_true_eq] at k
  unfold roundT
  repeat' split
  all_goals omega
theorem takeF_true {n : Int} {l : List Pr} (k : (takeF n l).1.2 = true) : ∃ (j : Nat) (hj : j < l.length), (takeF n l).1.1 = (l[j]).lo ∧ fits n l[j] = true := by
  unfold takeF at k ⊢
  split
  · rename_i hc
    split
    · rename_i j hj
      have hk : j < l.length := (List.findIdx?_eq_some_iff_getElem.1 hj).1
      exact ⟨j, hk, rfl, (List.findIdx?_eq_some_iff_getElem.1 hj).2.1⟩
    · rename_i hj
      rw [if_pos hc] at k
      split at k <;> simp_all
  · rename_i hc
    rw [if_neg hc] at k
    cases k
theorem takeF_false {n : Int} {l : List Pr} (k : (takeF n l).1.2 = false) : (takeF n l).2 = l := by
  unfold takeF at k ⊢
  split
  · rename_i hc
    rw [if_pos hc] at k
    split
    · rename_i j hj
      split at k <;> simp_all
    · rfl
  · rfl
theorem HpB.box {w W W1 : World} {h ck q fq p pq g bq bf n : Nat} {fr tu ra rp full : Int} {vq vf : Value} {x : HSt} {rb : Nat} (k : HpB w W h ck q fq p pq g bq bf n fr tu ra rp full vq vf x) (y : Only (· = rb) W W1) (hr : w.heap.size ≤ rb) (h1 : rb ∉ [h, ck, q, fq, p, pq, g]) (h2 : ¬ vq.ownBlock = some rb) (h3 : ¬ vf.ownBlock = some rb) : HpB w W1 h ck q fq p pq g bq bf n fr tu ra rp full vq vf x := by
  have hE : Ext w W1 := Ext.only k.base y (fun i hi => by subst hi; exact hr)
  exact k.only y hE (by rintro i rfl; exact ⟨h1, h2, h3⟩) (EG.only k.ex y hE (fun e => h1 (by simp [e])) (fun b e c => h3 (by rw [← c]; exact e)))
theorem wp_ins {o : Oper} {a : Act} {w : World} {K : Act → World → Prop} {Q : Exit → Act → World → Prop} (m i v : Operand) (ho : o.op = .mapUpdate 67 m i v) (g : Nat) (lv : List Lv) (z : Lv) (hm : a.eval m = .map (some g)) (hi : a.eval i = .int .i64 z.at_) (hv : a.eval v = z.val) (h : MapAt w g lv) (hz : idxL lv z.at_ = none)
    (hK : ∀ w', MapAt w' g (lv ++ [z]) → Only (· = g) w w' → K (a.put o.dst undef) w') : o.wp Tryd.prog a w K Q := by
  obtain ⟨w', hr, h1, h2⟩ := h.insert z hz
  have hr := hr Tryd.prog 67 3 73 Tryd.underlying67 Tryd.underlying3
  unfold Oper.wp execOp
  simp only [ho, Sem.run_bind, Sem.run_pure, Result.andThen_ok, hm, hi, hv, hr]
  first | exact hK w' h1 h2 | (unfold Oper.upon; exact hK w' h1 h2) | (simp only [Oper.upon]; exact hK w' h1 h2)
set_option maxRecDepth 100000 in
set_option maxHeartbeats 4000000 in
theorem hAlloc (w W : World) (h ck q fq p pq g bq bf n : Nat) (fr tu ra rp full : Int) (T : Nat → Prop) (x : HSt) (k : Hp w W h ck q fq p pq g bq bf n fr tu ra rp full T x) (m : Int) (hm : -9223372036854775808 ≤ m ∧ m ≤ 9223372036854775807) (ht : Tab W) (hfresh : alOk x m = true → idxL x.lv (alAt x m) = none) : Calls Tryd.prog 15 #[.pointer (some ⟨h, 0, none⟩), .int .i64 m] W fun e W' => e = .returned (.tuple #[.agg #[.bool (alC rp x m).tag, .int .i64 (alC rp x m).base, .int .i64 (alC rp x m).top, .int .i64 (alC rp x m).at_, .int .i64 (alC rp x m).perms, .int .i64 (alC rp x m).type], .int .i64 (alE x m)]) ∧ Hid (Hp w W' h ck q fq p pq g bq bf n fr tu ra rp full T (x.al m)) ∧ Hid (Only (fun i => ¬ T i) W W') := by
  obtain ⟨vq, vf, k, hT⟩ := k
  have HT9 := hid hT
  clear hT
  have HK := hid k
  have HT := hid ht
  have HFR := hid hfresh
  have HEO : Hid (∀ i, (i = fq ∨ vf.ownBlock = some i) → i < W.heap.size) := hid (by
    rintro i (e | e)
    · subst e; exact k.ex.1.1.1
    · exact (k.ex.1.1.2.2.2.1.lt i e).2)
  have HFL : Hid (∀ i, i ∈ [h, ck, q, fq, p, pq, g] → i < W.heap.size) := hid (by
    intro i hi
    simp only [List.mem_cons, List.not_mem_nil, or_false] at hi
    rcases hi with e | e | e | e | e | e | e <;> subst e
    · exact k.hl
    · exact k.clk.1
    · exact k.qs.1
    · exact k.ex.1.1.1
    · exact k.sh.ltp
    · exact k.sh.ltq
    · exact k.mp.lt)
  have HQO : Hid (∀ i, vq.ownBlock = some i → i < W.heap.size) := hid (fun i e => (k.qs.2.2.2.1.lt i e).2)
  clear k ht hfresh
  cases hrb : roundB m with
  | false =>
    have HRB := hid hrb
    have hal : alOk x m = false := by unfold alOk; rw [hrb]; rfl
    have hres : alC rp x m = ⟨false, 0, 0, 0, 0, 0⟩ ∧ alE x m = 1 ∧ x.al m = x := ⟨by unfold alC; rw [hal]; rfl, by unfold alE; rw [hrb]; rfl, by unfold HSt.al; rw [hal]; rfl⟩
    rw [hres.1, hres.2.1, hres.2.2]
    clear hrb hal hres
    go_enter Tryd.func15, Tryd.ntmps15
    go_upto_region 1 with (fail)
    refine wp_gen (fun V => Hid (HpB w V h ck q fq p pq g bq bf n fr tu ra rp full vq vf x) ∧ Hid (Row V W.heap.size 0 [.bool false, .int .i64 0, .int .i64 0, .int .i64 0, .int .i64 0, .int .i64 0]) ∧ Hid (Tab V) ∧ Hid (Ext W V)) ⟨hid (HK.out.ext (by repeat (first | (with_reducible exact Ext.refl _) | (with_reducible refine Ext.undrew ?_) | (with_reducible refine Ext.grow ?_ _) | (with_reducible refine Ext.drew ?_) | (with_reducible refine Ext.drewN ?_ _) | (with_reducible refine Ext.alloc ?_ _) | (with_reducible assumption) | ((with_reducible refine Ext.setCell ?_ ?_ _); rotate_left; (first | exact Nat.le_refl _ | ((try dsimp only); (try simp only [World.size_alloc, grow_size, World.size_setCell]); omega)))))), hid (Row.new W _ _), hid (HT.out.ext (by repeat (first | (with_reducible exact Ext.refl _) | (with_reducible refine Ext.undrew ?_) | (with_reducible refine Ext.grow ?_ _) | (with_reducible refine Ext.drew ?_) | (with_reducible refine Ext.drewN ?_ _) | (with_reducible refine Ext.alloc ?_ _) | (with_reducible assumption) | ((with_reducible refine Ext.setCell ?_ ?_ _); rotate_left; (first | exact Nat.le_refl _ | ((try dsimp only); (try simp only [World.size_alloc, grow_size, World.size_setCell]); omega)))))), hid (by repeat (first | (with_reducible exact Ext.refl _) | (with_reducible refine Ext.undrew ?_) | (with_reducible refine Ext.grow ?_ _) | (with_reducible refine Ext.drew ?_) | (with_reducible refine Ext.drewN ?_ _) | (with_reducible refine Ext.alloc ?_ _) | (with_reducible assumption) | ((with_reducible refine Ext.setCell ?_ ?_ _); rotate_left; (first | exact Nat.le_refl _ | ((try dsimp only); (try simp only [World.size_alloc, grow_size, World.size_setCell]); omega)))))⟩ ?_
    rintro W1 ⟨HK1, HR1, HT1, HX1⟩
    have HRN : Hid (¬ tch fq vf W.heap.size ∧ W.heap.size ∉ [h, ck, q, fq, p, pq, g] ∧ ¬ vq.ownBlock = some W.heap.size ∧ ¬ vf.ownBlock = some W.heap.size ∧ ¬ W.heap.size = g) := hid ⟨by rintro (c | c); have := HEO.out _ (.inl c); omega; have := HEO.out _ (.inr c); omega, fun c => by have := HFL.out _ c; omega, fun c => by have := HQO.out _ c; omega, fun c => by have := HEO.out _ (.inr c); omega, fun c => by have := HFL.out g (by simp); omega⟩
    have HRL : Hid (w.heap.size ≤ W.heap.size) := hid HK.out.base.size
    have HRG : Hid (W.heap.size ≤ W.heap.size) := hid (Nat.le_refl _)
    have HTF9 : Hid (∀ i, tch fq vf i → ¬ T i) := hid (by rintro i (c | c) ht; exact (HT9.out i ht).2.1 (by simp [c]); exact (HT9.out i ht).2.2.2 c)
    obtain ⟨rb, hrb⟩ : ∃ z, W.heap.size = z := ⟨_, rfl⟩
    have HRG : Hid (W.heap.size = rb) := hid hrb
    rw [hrb] at HR1 HRN HRL ⊢
    clear hrb
    have hl := HK1.out.hl
    have c8 := HK1.out.c8
    have r0 : World.cell? W1 ⟨rb, 0, none⟩ = some (.bool false) := by have := HR1.out.at_ 0 _ rfl; simpa using this
    have rf0 : World.frozen? W1 ⟨rb, 0, none⟩ = false := by have := HR1.out.free 0 (by simp); simpa using this
    have r1 : World.cell? W1 ⟨rb, 1, none⟩ = some (.int .i64 0) := by have := HR1.out.at_ 1 _ rfl; simpa using this
    have rf1 : World.frozen? W1 ⟨rb, 1, none⟩ = false := by have := HR1.out.free 1 (by simp); simpa using this
    have r2 : World.cell? W1 ⟨rb, 2, none⟩ = some (.int .i64 0) := by have := HR1.out.at_ 2 _ rfl; simpa using this
    have rf2 : World.frozen? W1 ⟨rb, 2, none⟩ = false := by have := HR1.out.free 2 (by simp); simpa using this
    have r3 : World.cell? W1 ⟨rb, 3, none⟩ = some (.int .i64 0) := by have := HR1.out.at_ 3 _ rfl; simpa using this
    have rf3 : World.frozen? W1 ⟨rb, 3, none⟩ = false := by have := HR1.out.free 3 (by simp); simpa using this
    have r4 : World.cell? W1 ⟨rb, 4, none⟩ = some (.int .i64 0) := by have := HR1.out.at_ 4 _ rfl; simpa using this
    have rf4 : World.frozen? W1 ⟨rb, 4, none⟩ = false := by have := HR1.out.free 4 (by simp); simpa using this
    have r5 : World.cell? W1 ⟨rb, 5, none⟩ = some (.int .i64 0) := by have := HR1.out.at_ 5 _ rfl; simpa using this
    have rf5 : World.frozen? W1 ⟨rb, 5, none⟩ = false := by have := HR1.out.free 5 (by simp); simpa using this
    have rl := HR1.out.lt
    go_wp2_with (go_at_call 40; refine (round_ m _ HT1.out).mono ?_; rw [HRB.out]; rintro e w1 ⟨rfl, rfl⟩)
    exact bodyPost_ret (v := .tuple #[.agg #[.bool false, .int .i64 0, .int .i64 0, .int .i64 0, .int .i64 0, .int .i64 0], .int .i64 1]) (by simp [results, Tryd.results15, go_sem, *]) rfl ⟨rfl, hid ⟨vq, vf, HK1.out.box (by repeat (first | (with_reducible exact Only.refl _ _) | (with_reducible refine Only.alloc ?_ _) | ((with_reducible refine Only.setCell (S := (· = rb)) ?_ ?_ _); rotate_left; (first | exact Or.inl rfl | exact Or.inr (Nat.le_refl _))))) HRL.out HRN.out.2.1 HRN.out.2.2.1 HRN.out.2.2.2.1, HT9.out.same ((Only.ofExt (S := (· = rb)) HX1.out).trans' (by repeat (first | (with_reducible exact Only.refl _ _) | (with_reducible refine Only.alloc ?_ _) | ((with_reducible refine Only.setCell (S := (· = rb)) ?_ ?_ _); rotate_left; (first | exact Or.inl rfl | exact Or.inr (Nat.le_refl _)))))).size⟩, hid ((Only.ofT HX1.out).trans' (Only.offT (S := (· = rb)) (by repeat (first | (with_reducible exact Only.refl _ _) | (with_reducible refine Only.alloc ?_ _) | ((with_reducible refine Only.setCell (S := (· = rb)) ?_ ?_ _); rotate_left; (first | exact Or.inl rfl | exact Or.inr (Nat.le_refl _))))) (by rintro i rfl ht; have := (HT9.out _ ht).1; have := HRG.out; omega)))⟩
  | true =>
    have HRB := hid hrb
    cases htk : (takeF (roundT m) x.lf).1.2 with
    | false =>
      have hal : alOk x m = false := by unfold alOk; rw [hrb, htk]; rfl
      have hres : alC rp x m = ⟨false, 0, 0, 0, 0, 0⟩ ∧ alE x m = 5 ∧ x.al m = x := ⟨by unfold alC; rw [hal]; rfl, by unfold alE; rw [hrb, htk]; rfl, by unfold HSt.al; rw [hal]; rfl⟩
      rw [hres.1, hres.2.1, hres.2.2]
      have HTK := hid (takeF_false htk)
      have HTF := hid htk
      clear hrb hal hres htk
      go_enter Tryd.func15, Tryd.ntmps15
      go_upto_region 1 with (fail)
      refine wp_gen (fun V => Hid (HpB w V h ck q fq p pq g bq bf n fr tu ra rp full vq vf x) ∧ Hid (Row V W.heap.size 0 [.bool false, .int .i64 0, .int .i64 0, .int .i64 0, .int .i64 0, .int .i64 0]) ∧ Hid (Tab V) ∧ Hid (Ext W V)) ⟨hid (HK.out.ext (by repeat (first | (with_reducible exact Ext.refl _) | (with_reducible refine Ext.undrew ?_) | (with_reducible refine Ext.grow ?_ _) | (with_reducible refine Ext.drew ?_) | (with_reducible refine Ext.drewN ?_ _) | (with_reducible refine Ext.alloc ?_ _) | (with_reducible assumption) | ((with_reducible refine Ext.setCell ?_ ?_ _); rotate_left; (first | exact Nat.le_refl _ | ((try dsimp only); (try simp only [World.size_alloc, grow_size, World.size_setCell]); omega)))))), hid (Row.new W _ _), hid (HT.out.ext (by repeat (first | (with_reducible exact Ext.refl _) | (with_reducible refine Ext.undrew ?_) | (with_reducible refine Ext.grow ?_ _) | (with_reducible refine Ext.drew ?_) | (with_reducible refine Ext.drewN ?_ _) | (with_reducible refine Ext.alloc ?_ _) | (with_reducible assumption) | ((with_reducible refine Ext.setCell ?_ ?_ _); rotate_left; (first | exact Nat.le_refl _ | ((try dsimp only); (try simp only [World.size_alloc, grow_size, World.size_setCell]); omega)))))), hid (by repeat (first | (with_reducible exact Ext.refl _) | (with_reducible refine Ext.undrew ?_) | (with_reducible refine Ext.grow ?_ _) | (with_reducible refine Ext.drew ?_) | (with_reducible refine Ext.drewN ?_ _) | (with_reducible refine Ext.alloc ?_ _) | (with_reducible assumption) | ((with_reducible refine Ext.setCell ?_ ?_ _); rotate_left; (first | exact Nat.le_refl _ | ((try dsimp only); (try simp only [World.size_alloc, grow_size, World.size_setCell]); omega)))))⟩ ?_
      rintro W1 ⟨HK1, HR1, HT1, HX1⟩
      have HRN : Hid (¬ tch fq vf W.heap.size ∧ W.heap.size ∉ [h, ck, q, fq, p, pq, g] ∧ ¬ vq.ownBlock = some W.heap.size ∧ ¬ vf.ownBlock = some W.heap.size ∧ ¬ W.heap.size = g) := hid ⟨by rintro (c | c); have := HEO.out _ (.inl c); omega; have := HEO.out _ (.inr c); omega, fun c => by have := HFL.out _ c; omega, fun c => by have := HQO.out _ c; omega, fun c => by have := HEO.out _ (.inr c); omega, fun c => by have := HFL.out g (by simp); omega⟩
      have HRL : Hid (w.heap.size ≤ W.heap.size) := hid HK.out.base.size
      have HRG : Hid (W.heap.size ≤ W.heap.size) := hid (Nat.le_refl _)
      have HTF9 : Hid (∀ i, tch fq vf i → ¬ T i) := hid (by rintro i (c | c) ht; exact (HT9.out i ht).2.1 (by simp [c]); exact (HT9.out i ht).2.2.2 c)
      obtain ⟨rb, hrb⟩ : ∃ z, W.heap.size = z := ⟨_, rfl⟩
      have HRG : Hid (W.heap.size = rb) := hid hrb
      rw [hrb] at HR1 HRN HRL ⊢
      clear hrb
      have hl := HK1.out.hl
      have c8 := HK1.out.c8
      have r0 : World.cell? W1 ⟨rb, 0, none⟩ = some (.bool false) := by have := HR1.out.at_ 0 _ rfl; simpa using this
      have rf0 : World.frozen? W1 ⟨rb, 0, none⟩ = false := by have := HR1.out.free 0 (by simp); simpa using this
      have r1 : World.cell? W1 ⟨rb, 1, none⟩ = some (.int .i64 0) := by have := HR1.out.at_ 1 _ rfl; simpa using this
      have rf1 : World.frozen? W1 ⟨rb, 1, none⟩ = false := by have := HR1.out.free 1 (by simp); simpa using this
      have r2 : World.cell? W1 ⟨rb, 2, none⟩ = some (.int .i64 0) := by have := HR1.out.at_ 2 _ rfl; simpa using this
      have rf2 : World.frozen? W1 ⟨rb, 2, none⟩ = false := by have := HR1.out.free 2 (by simp); simpa using this
      have r3 : World.cell? W1 ⟨rb, 3, none⟩ = some (.int .i64 0) := by have := HR1.out.at_ 3 _ rfl; simpa using this
      have rf3 : World.frozen? W1 ⟨rb, 3, none⟩ = false := by have := HR1.out.free 3 (by simp); simpa using this
      have r4 : World.cell? W1 ⟨rb, 4, none⟩ = some (.int .i64 0) := by have := HR1.out.at_ 4 _ rfl; simpa using this
      have rf4 : World.frozen? W1 ⟨rb, 4, none⟩ = false := by have := HR1.out.free 4 (by simp); simpa using this
      have r5 : World.cell? W1 ⟨rb, 5, none⟩ = some (.int .i64 0) := by have := HR1.out.at_ 5 _ rfl; simpa using this
      have rf5 : World.frozen? W1 ⟨rb, 5, none⟩ = false := by have := HR1.out.free 5 (by simp); simpa using this
      have rl := HR1.out.lt
      go_wp2_with (first | (go_at_call 40; refine (round_ m _ HT1.out).mono ?_; rw [HRB.out]; rintro e w1 ⟨rfl, rfl⟩) | (go_at_call 41; refine (oTake w fq bf fr tu vf x.lf _ HK1.out.ex (roundT m)).mono ?_; rw [HTF.out]; rintro e W3 ⟨v3, rfl, hx3, ho3, hv3⟩; have HK3 := hid (HK1.out.setEx hx3.out ho3.out hv3.out); have HO3 := ho3; have HV3 := hv3; have HR3 := hid (HR1.out.only ho3.out HRN.out.1); have hl3 := HK3.out.hl; have c103 := HK3.out.c10; have rt3 := HK3.out.rt; have HN3 : Hid (¬ v3.ownBlock = some rb) := hid (fun e => by rcases hv3.out _ e with c | c; exact HRN.out.2.2.2.1 c; have := HR1.out.lt; omega); have r0 : World.cell? W3 ⟨rb, 0, none⟩ = some (.bool false) := (by have := HR3.out.at_ 0 _ rfl; simpa using this); have rf0 : World.frozen? W3 ⟨rb, 0, none⟩ = false := (by have := HR3.out.free 0 (by simp); simpa using this); have r1 : World.cell? W3 ⟨rb, 1, none⟩ = some (.int .i64 0) := (by have := HR3.out.at_ 1 _ rfl; simpa using this); have rf1 : World.frozen? W3 ⟨rb, 1, none⟩ = false := (by have := HR3.out.free 1 (by simp); simpa using this); have r2 : World.cell? W3 ⟨rb, 2, none⟩ = some (.int .i64 0) := (by have := HR3.out.at_ 2 _ rfl; simpa using this); have rf2 : World.frozen? W3 ⟨rb, 2, none⟩ = false := (by have := HR3.out.free 2 (by simp); simpa using this); have r3 : World.cell? W3 ⟨rb, 3, none⟩ = some (.int .i64 0) := (by have := HR3.out.at_ 3 _ rfl; simpa using this); have rf3 : World.frozen? W3 ⟨rb, 3, none⟩ = false := (by have := HR3.out.free 3 (by simp); simpa using this); have r4 : World.cell? W3 ⟨rb, 4, none⟩ = some (.int .i64 0) := (by have := HR3.out.at_ 4 _ rfl; simpa using this); have rf4 : World.frozen? W3 ⟨rb, 4, none⟩ = false := (by have := HR3.out.free 4 (by simp); simpa using this); have r5 : World.cell? W3 ⟨rb, 5, none⟩ = some (.int .i64 0) := (by have := HR3.out.at_ 5 _ rfl; simpa using this); have rf5 : World.frozen? W3 ⟨rb, 5, none⟩ = false := (by have := HR3.out.free 5 (by simp); simpa using this); have rl := HR3.out.lt))
      have HX9 : Hid (x = { x with lf := (takeF (roundT m) x.lf).2 }) := hid (by rw [HTK.out])
      exact bodyPost_ret (v := .tuple #[.agg #[.bool false, .int .i64 0, .int .i64 0, .int .i64 0, .int .i64 0, .int .i64 0], .int .i64 5]) (by simp [results, Tryd.results15, go_sem, *]) rfl ⟨rfl, hid ⟨vq, v3, by rw [HX9.out]; exact HK3.out.box (by repeat (first | (with_reducible exact Only.refl _ _) | (with_reducible refine Only.alloc ?_ _) | ((with_reducible refine Only.setCell (S := (· = rb)) ?_ ?_ _); rotate_left; (first | exact Or.inl rfl | exact Or.inr (Nat.le_refl _))))) HRL.out HRN.out.2.1 HRN.out.2.2.1 HN3.out, (HT9.out.same HX1.out.size).upd (((Only.ofExt (S := fun i => i = rb) (Ext.refl W3)).trans' (by repeat (first | (with_reducible exact Only.refl _ _) | (with_reducible refine Only.alloc ?_ _) | ((with_reducible refine Only.setCell (S := (· = rb)) ?_ ?_ _); rotate_left; (first | exact Or.inl rfl | exact Or.inr (Nat.le_refl _)))))).size |> Nat.le_trans HO3.out.size) (fun _ e => .inl e) HV3.out⟩, hid (((Only.ofT HX1.out).trans' (Only.offT HO3.out HTF9.out)).trans' (Only.offT (S := (· = rb)) (by repeat (first | (with_reducible exact Only.refl _ _) | (with_reducible refine Only.alloc ?_ _) | ((with_reducible refine Only.setCell (S := (· = rb)) ?_ ?_ _); rotate_left; (first | exact Or.inl rfl | exact Or.inr (Nat.le_refl _))))) (by rintro i rfl ht; have := (HT9.out _ ht).1; have := HRG.out; omega)))⟩
    | true =>
      have hal : alOk x m = true := by unfold alOk; rw [hrb, htk]; rfl
      have HIX := hid (HFR.out hal)
      obtain ⟨at_, hat⟩ : ∃ a, alAt x m = a := ⟨_, rfl⟩
      obtain ⟨ak, hak⟩ : ∃ a, max m 1 = a := ⟨_, rfl⟩
      have hak2 : (if m < 1 then 1 else m) = ak := by rw [← hak]; split <;> omega
      obtain ⟨lf9, hlf⟩ : ∃ a, (takeF (roundT m) x.lf).2 = a := ⟨_, rfl⟩
      have hres : alC rp x m = ⟨true, at_, at_ + ak, at_, rp, 0⟩ ∧ alE x m = 0 ∧ x.al m = { x with lf := lf9, lv := x.lv ++ [⟨at_, ak, roundT m⟩] } := ⟨by unfold alC; rw [hal, hat, hak]; rfl, by unfold alE; rw [hrb, htk]; rfl, by unfold HSt.al; rw [hal, hat, hak, hlf]; rfl⟩
      rw [hres.1, hres.2.1, hres.2.2]
      rw [hat] at HIX
      obtain ⟨j, hj, t1, t2⟩ := takeF_true htk
      have hbd := (HK.out.ex.2.1.okF HK.out.ex.2.2.1 HK.out.ex.2.2.2) _ (List.getElem_mem hj)
      have hrt := roundT_bdA hrb
      have hmb : 0 ≤ m ∧ m ≤ 65536 := by unfold roundB at hrb; simpa using hrb
      have hato : at_ = (x.lf[j]).lo := by rw [← hat]; exact t1
      have h0a : 0 ≤ at_ := by omega
      have h1a : at_ ≤ 16777216 := by omega
      have h0k : 1 ≤ ak := by omega
      have h1k : ak ≤ 65536 := by omega
      have HLV : Hid (okLv ⟨at_, ak, roundT m⟩) := hid ⟨⟨h0a, h1a⟩, ⟨h0k, h1k⟩, hrt⟩
      have HTF : Hid ((takeF (roundT m) x.lf).1.2 = true ∧ (takeF (roundT m) x.lf).1.1 = at_ ∧ (takeF (roundT m) x.lf).2 = lf9) := hid ⟨htk, hat, hlf⟩
      have HMAX := hid hak2
      clear hrb hal hres htk t1 t2 hbd hrt hato hlf hat hak hak2 hj hmb
      go_enter Tryd.func15, Tryd.ntmps15
      go_upto_region 1 with (fail)
      refine wp_gen (fun V => Hid (HpB w V h ck q fq p pq g bq bf n fr tu ra rp full vq vf x) ∧ Hid (Row V W.heap.size 0 [.bool false, .int .i64 0, .int .i64 0, .int .i64 0, .int .i64 0, .int .i64 0]) ∧ Hid (Tab V) ∧ Hid (Ext W V)) ⟨hid (HK.out.ext (by repeat (first | (with_reducible exact Ext.refl _) | (with_reducible refine Ext.undrew ?_) | (with_reducible refine Ext.grow ?_ _) | (with_reducible refine Ext.drew ?_) | (with_reducible refine Ext.drewN ?_ _) | (with_reducible refine Ext.alloc ?_ _) | (with_reducible assumption) | ((with_reducible refine Ext.setCell ?_ ?_ _); rotate_left; (first | exact Nat.le_refl _ | ((try dsimp only); (try simp only [World.size_alloc, grow_size, World.size_setCell]); omega)))))), hid (Row.new W _ _), hid (HT.out.ext (by repeat (first | (with_reducible exact Ext.refl _) | (with_reducible refine Ext.undrew ?_) | (with_reducible refine Ext.grow ?_ _) | (with_reducible refine Ext.drew ?_) | (with_reducible refine Ext.drewN ?_ _) | (with_reducible refine Ext.alloc ?_ _) | (with_reducible assumption) | ((with_reducible refine Ext.setCell ?_ ?_ _); rotate_left; (first | exact Nat.le_refl _ | ((try dsimp only); (try simp only [World.size_alloc, grow_size, World.size_setCell]); omega)))))), hid (by repeat (first | (with_reducible exact Ext.refl _) | (with_reducible refine Ext.undrew ?_) | (with_reducible refine Ext.grow ?_ _) | (with_reducible refine Ext.drew ?_) | (with_reducible refine Ext.drewN ?_ _) | (with_reducible refine Ext.alloc ?_ _) | (with_reducible assumption) | ((with_reducible refine Ext.setCell ?_ ?_ _); rotate_left; (first | exact Nat.le_refl _ | ((try dsimp only); (try simp only [World.size_alloc, grow_size, World.size_setCell]); omega)))))⟩ ?_
      rintro W1 ⟨HK1, HR1, HT1, HX1⟩
      have HRN : Hid (¬ tch fq vf W.heap.size ∧ W.heap.size ∉ [h, ck, q, fq, p, pq, g] ∧ ¬ vq.ownBlock = some W.heap.size ∧ ¬ vf.ownBlock = some W.heap.size ∧ ¬ W.heap.size = g) := hid ⟨by rintro (c | c); have := HEO.out _ (.inl c); omega; have := HEO.out _ (.inr c); omega, fun c => by have := HFL.out _ c; omega, fun c => by have := HQO.out _ c; omega, fun c => by have := HEO.out _ (.inr c); omega, fun c => by have := HFL.out g (by simp); omega⟩
      have HRL : Hid (w.heap.size ≤ W.heap.size) := hid HK.out.base.size
      have HRG : Hid (W.heap.size ≤ W.heap.size) := hid (Nat.le_refl _)
      have HTF9 : Hid (∀ i, tch fq vf i → ¬ T i) := hid (by rintro i (c | c) ht; exact (HT9.out i ht).2.1 (by simp [c]); exact (HT9.out i ht).2.2.2 c)
      obtain ⟨rb, hrb⟩ : ∃ z, W.heap.size = z := ⟨_, rfl⟩
      have HRG : Hid (W.heap.size = rb) := hid hrb
      rw [hrb] at HR1 HRN HRL ⊢
      clear hrb
      have hl := HK1.out.hl
      have c8 := HK1.out.c8
      have r0 : World.cell? W1 ⟨rb, 0, none⟩ = some (.bool false) := by have := HR1.out.at_ 0 _ rfl; simpa using this
      have rf0 : World.frozen? W1 ⟨rb, 0, none⟩ = false := by have := HR1.out.free 0 (by simp); simpa using this
      have r1 : World.cell? W1 ⟨rb, 1, none⟩ = some (.int .i64 0) := by have := HR1.out.at_ 1 _ rfl; simpa using this
      have rf1 : World.frozen? W1 ⟨rb, 1, none⟩ = false := by have := HR1.out.free 1 (by simp); simpa using this
      have r2 : World.cell? W1 ⟨rb, 2, none⟩ = some (.int .i64 0) := by have := HR1.out.at_ 2 _ rfl; simpa using this
      have rf2 : World.frozen? W1 ⟨rb, 2, none⟩ = false := by have := HR1.out.free 2 (by simp); simpa using this
      have r3 : World.cell? W1 ⟨rb, 3, none⟩ = some (.int .i64 0) := by have := HR1.out.at_ 3 _ rfl; simpa using this
      have rf3 : World.frozen? W1 ⟨rb, 3, none⟩ = false := by have := HR1.out.free 3 (by simp); simpa using this
      have r4 : World.cell? W1 ⟨rb, 4, none⟩ = some (.int .i64 0) := by have := HR1.out.at_ 4 _ rfl; simpa using this
      have rf4 : World.frozen? W1 ⟨rb, 4, none⟩ = false := by have := HR1.out.free 4 (by simp); simpa using this
      have r5 : World.cell? W1 ⟨rb, 5, none⟩ = some (.int .i64 0) := by have := HR1.out.at_ 5 _ rfl; simpa using this
      have rf5 : World.frozen? W1 ⟨rb, 5, none⟩ = false := by have := HR1.out.free 5 (by simp); simpa using this
      have rl := HR1.out.lt
      go_upto_region 8 with (first | (go_at_call 40; refine (round_ m _ HT1.out).mono ?_; rw [HRB.out]; rintro e w1 ⟨rfl, rfl⟩) | (go_at_call 41; refine (oTake w fq bf fr tu vf x.lf _ HK1.out.ex (roundT m)).mono ?_; rw [HTF.out.1, HTF.out.2.1, HTF.out.2.2]; rintro e W3 ⟨v3, rfl, hx3, ho3, hv3⟩; have HK3 := hid (HK1.out.setEx hx3.out ho3.out hv3.out); have HO3 := ho3; have HV3 := hv3; have HR3 := hid (HR1.out.only ho3.out HRN.out.1); have hl3 := HK3.out.hl; have c103 := HK3.out.c10; have rt3 := HK3.out.rt; have HN3 : Hid (¬ v3.ownBlock = some rb) := hid (fun e => by rcases hv3.out _ e with c | c; exact HRN.out.2.2.2.1 c; have := HR1.out.lt; omega); have r0 : World.cell? W3 ⟨rb, 0, none⟩ = some (.bool false) := (by have := HR3.out.at_ 0 _ rfl; simpa using this); have rf0 : World.frozen? W3 ⟨rb, 0, none⟩ = false := (by have := HR3.out.free 0 (by simp); simpa using this); have r1 : World.cell? W3 ⟨rb, 1, none⟩ = some (.int .i64 0) := (by have := HR3.out.at_ 1 _ rfl; simpa using this); have rf1 : World.frozen? W3 ⟨rb, 1, none⟩ = false := (by have := HR3.out.free 1 (by simp); simpa using this); have r2 : World.cell? W3 ⟨rb, 2, none⟩ = some (.int .i64 0) := (by have := HR3.out.at_ 2 _ rfl; simpa using this); have rf2 : World.frozen? W3 ⟨rb, 2, none⟩ = false := (by have := HR3.out.free 2 (by simp); simpa using this); have r3 : World.cell? W3 ⟨rb, 3, none⟩ = some (.int .i64 0) := (by have := HR3.out.at_ 3 _ rfl; simpa using this); have rf3 : World.frozen? W3 ⟨rb, 3, none⟩ = false := (by have := HR3.out.free 3 (by simp); simpa using this); have r4 : World.cell? W3 ⟨rb, 4, none⟩ = some (.int .i64 0) := (by have := HR3.out.at_ 4 _ rfl; simpa using this); have rf4 : World.frozen? W3 ⟨rb, 4, none⟩ = false := (by have := HR3.out.free 4 (by simp); simpa using this); have r5 : World.cell? W3 ⟨rb, 5, none⟩ = some (.int .i64 0) := (by have := HR3.out.at_ 5 _ rfl; simpa using this); have rf5 : World.frozen? W3 ⟨rb, 5, none⟩ = false := (by have := HR3.out.free 5 (by simp); simpa using this); have rl := HR3.out.lt))
      rw [HMAX.out]
      go_upto_region 9 with (refine wpList_plain rfl fun K hK => ?_; refine wp_ins _ _ _ rfl g x.lv ⟨at_, ak, roundT m⟩ rfl rfl rfl HK3.out.mp HIX.out ?_; intro W5 hm5 ho5; refine hK _ _ ?_; clear hK K; have HK5 := hid (HK3.out.setMap hm5 ho5 (fun z hz => by rcases List.mem_append.1 hz with hz | hz; exact HK3.out.okl.1 z hz; simp at hz; subst hz; exact HLV.out)); have HR5 := hid (HR3.out.only ho5 HRN.out.2.2.2.2); have hl5 := HK5.out.hl; have HO5 := hid ho5; clear HK3 HR3 hl3 c103 rt3; have r0 : World.cell? W5 ⟨rb, 0, none⟩ = some (.bool false) := (by have := HR5.out.at_ 0 _ rfl; simpa using this); have rf0 : World.frozen? W5 ⟨rb, 0, none⟩ = false := (by have := HR5.out.free 0 (by simp); simpa using this); have r1 : World.cell? W5 ⟨rb, 1, none⟩ = some (.int .i64 0) := (by have := HR5.out.at_ 1 _ rfl; simpa using this); have rf1 : World.frozen? W5 ⟨rb, 1, none⟩ = false := (by have := HR5.out.free 1 (by simp); simpa using this); have r2 : World.cell? W5 ⟨rb, 2, none⟩ = some (.int .i64 0) := (by have := HR5.out.at_ 2 _ rfl; simpa using this); have rf2 : World.frozen? W5 ⟨rb, 2, none⟩ = false := (by have := HR5.out.free 2 (by simp); simpa using this); have r3 : World.cell? W5 ⟨rb, 3, none⟩ = some (.int .i64 0) := (by have := HR5.out.at_ 3 _ rfl; simpa using this); have rf3 : World.frozen? W5 ⟨rb, 3, none⟩ = false := (by have := HR5.out.free 3 (by simp); simpa using this); have r4 : World.cell? W5 ⟨rb, 4, none⟩ = some (.int .i64 0) := (by have := HR5.out.at_ 4 _ rfl; simpa using this); have rf4 : World.frozen? W5 ⟨rb, 4, none⟩ = false := (by have := HR5.out.free 4 (by simp); simpa using this); have r5 : World.cell? W5 ⟨rb, 5, none⟩ = some (.int .i64 0) := (by have := HR5.out.at_ 5 _ rfl; simpa using this); have rf5 : World.frozen? W5 ⟨rb, 5, none⟩ = false := (by have := HR5.out.free 5 (by simp); simpa using this); have rl := HR5.out.lt; have e0 : World.cell? W5 ⟨h, 2, none⟩ = some (.bool true) := (by have := HK5.out.rt 0 _ rfl; simpa using this); have e1 : World.cell? W5 ⟨h, 3, none⟩ = some (.int .i64 fr) := (by have := HK5.out.rt 1 _ rfl; simpa using this); have e2 : World.cell? W5 ⟨h, 4, none⟩ = some (.int .i64 tu) := (by have := HK5.out.rt 2 _ rfl; simpa using this); have e3 : World.cell? W5 ⟨h, 5, none⟩ = some (.int .i64 ra) := (by have := HK5.out.rt 3 _ rfl; simpa using this); have e4 : World.cell? W5 ⟨h, 6, none⟩ = some (.int .i64 rp) := (by have := HK5.out.rt 4 _ rfl; simpa using this); have e5 : World.cell? W5 ⟨h, 7, none⟩ = some (.int .i64 0) := (by have := HK5.out.rt 5 _ rfl; simpa using this))
      go_wp2
      exact bodyPost_ret (v := .tuple #[.agg #[.bool true, .int .i64 at_, .int .i64 (at_ + ak), .int .i64 at_, .int .i64 rp, .int .i64 0], .int .i64 0]) (by simp [results, Tryd.results15, go_sem, *]) rfl ⟨rfl, hid ⟨vq, v3, HK5.out.box (by repeat (first | (with_reducible exact Only.refl _ _) | (with_reducible refine Only.alloc ?_ _) | ((with_reducible refine Only.setCell (S := (· = rb)) ?_ ?_ _); rotate_left; (first | exact Or.inl rfl | exact Or.inr (Nat.le_refl _))))) HRL.out HRN.out.2.1 HRN.out.2.2.1 HN3.out, (HT9.out.same HX1.out.size).upd (((Only.ofExt (S := fun i => i = rb) (Ext.refl W5)).trans' (by repeat (first | (with_reducible exact Only.refl _ _) | (with_reducible refine Only.alloc ?_ _) | ((with_reducible refine Only.setCell (S := (· = rb)) ?_ ?_ _); rotate_left; (first | exact Or.inl rfl | exact Or.inr (Nat.le_refl _)))))).size |> Nat.le_trans (Nat.le_trans HO3.out.size HO5.out.size)) (fun _ e => .inl e) HV3.out⟩, hid ((((Only.ofT HX1.out).trans' (Only.offT HO3.out HTF9.out)).trans' (Only.offT HO5.out (by rintro i rfl ht; exact (HT9.out _ ht).2.1 (by simp)))).trans' (Only.offT (S := (· = rb)) (by repeat (first | (with_reducible exact Only.refl _ _) | (with_reducible refine Only.alloc ?_ _) | ((with_reducible refine Only.setCell (S := (· = rb)) ?_ ?_ _); rotate_left; (first | exact Or.inl rfl | exact Or.inr (Nat.le_refl _))))) (by rintro i rfl ht; have := (HT9.out _ ht).1; have := HRG.out; omega)))⟩

end Go.Proofs.YtoeiemeffiiidaaDoor
