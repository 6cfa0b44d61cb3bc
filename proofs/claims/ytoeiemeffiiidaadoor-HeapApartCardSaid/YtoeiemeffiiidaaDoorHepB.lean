/- Layer 14: the bundle of a heap. -/
import Derived.Test.YtoeiemeffiiidaaDoorHepA
import Derived.Test.YtoeiemeffiiidaaDoorMhExV
namespace Go.Proofs.YtoeiemeffiiidaaDoor
set_option linter.unusedSimpArgs false
set_option linter.unusedVariables false
open Go.RowKit

/-- What a heap is at, told by values alone. -/
structure HSt where
  t : Int
  lq : List Hd
  lf : List Pr
  P : Nat → Bool
  lv : List Lv
def okLv (x : Lv) : Prop := (0 ≤ x.at_ ∧ x.at_ ≤ 16777216) ∧ (1 ≤ x.asked ∧ x.asked ≤ 65536) ∧ (16 ≤ x.takes ∧ x.takes ≤ 65536)
/-- The heap's block, and all that it has. -/
structure HpB (w W : World) (h ck q fq p pq g bq bf n : Nat) (fr tu ra rp full : Int) (vq vf : Value) (x : HSt) : Prop where
  base : Ext w W
  hl : h < W.heap.size
  c0 : W.cell? ⟨h, 0, none⟩ = some (.pointer (some ⟨ck, 0, none⟩))
  c1 : W.cell? ⟨h, 1, none⟩ = some (.pointer (some ⟨q, 0, none⟩))
  rt : W.rangeAt h 2 [.bool true, .int .i64 fr, .int .i64 tu, .int .i64 ra, .int .i64 rp, .int .i64 0]
  c8 : W.cell? ⟨h, 8, none⟩ = some (.pointer (some ⟨fq, 0, none⟩))
  c9 : W.cell? ⟨h, 9, none⟩ = some (.pointer (some ⟨p, 0, none⟩))
  c10 : W.cell? ⟨h, 10, none⟩ = some (.map (some g))
  clk : Clk W ck x.t
  qs : Qs W q bq full (sumL x.lq) vq x.lq
  ex : EG w W fq bf fr tu vf x.lf
  sh : Sh W p pq n x.P
  mp : MapAt W g x.lv
  lo : w.heap.size ≤ ck ∧ w.heap.size ≤ bq ∧ w.heap.size ≤ pq ∧ w.heap.size ≤ g
  nd : [h, ck, q, fq, p, pq, g].Nodup
  rq : ∀ b, vq.ownBlock = some b → b ∉ [h, ck, q, fq, p, pq, g] ∧ ¬ vf.ownBlock = some b
  rf : ∀ b, vf.ownBlock = some b → b ∉ [h, ck, q, fq, p, pq, g]
  okl : (∀ z ∈ x.lv, okLv z) ∧ goodL x.lq ∧ (0 ≤ x.t ∧ x.t ≤ 100000) ∧ ∀ z ∈ x.lq, z.time ≤ x.t ∧ (0 ≤ z.at_ ∧ z.at_ ≤ 16777216)
/-- Blocks that are none of the heap's. -/
def FrT (T : Nat → Prop) (W : World) (F : List Nat) (vq vf : Value) : Prop := ∀ i, T i → i < W.heap.size ∧ i ∉ F ∧ ¬ vq.ownBlock = some i ∧ ¬ vf.ownBlock = some i
theorem FrT.upd {T : Nat → Prop} {W W1 : World} {F : List Nat} {vq vf vq' vf' : Value} (k : FrT T W F vq vf) (hs : W.heap.size ≤ W1.heap.size) (h1 : ∀ b, vq'.ownBlock = some b → vq.ownBlock = some b ∨ W.heap.size ≤ b) (h2 : ∀ b, vf'.ownBlock = some b → vf.ownBlock = some b ∨ W.heap.size ≤ b) : FrT T W1 F vq' vf' := by
  intro i hi
  obtain ⟨a1, a2, a3, a4⟩ := k i hi
  refine ⟨by omega, a2, fun e => ?_, fun e => ?_⟩
  · rcases h1 i e with c | c
    · exact a3 c
    · omega
  · rcases h2 i e with c | c
    · exact a4 c
    · omega
theorem FrT.same {T : Nat → Prop} {W W1 : World} {F : List Nat} {vq vf : Value} (k : FrT T W F vq vf) (hs : W.heap.size ≤ W1.heap.size) : FrT T W1 F vq vf := k.upd hs (fun _ e => .inl e) (fun _ e => .inl e)
theorem Only.offT {S T : Nat → Prop} {W W1 : World} (y : Only S W W1) (h : ∀ i, S i → ¬ T i) : Only (fun i => ¬ T i) W W1 := Only.trans (S := fun i => ¬ T i) (Only.refl _ _) y (fun i hi => .inl (h i hi))
theorem Only.ofT {T : Nat → Prop} {W W1 : World} (y : Ext W W1) : Only (fun i => ¬ T i) W W1 := Only.ofExt y
def Hp (w W : World) (h ck q fq p pq g bq bf n : Nat) (fr tu ra rp full : Int) (T : Nat → Prop) (x : HSt) : Prop := ∃ vq vf, HpB w W h ck q fq p pq g bq bf n fr tu ra rp full vq vf x ∧ FrT T W [h, ck, q, fq, p, pq, g] vq vf
theorem rg_only {S : Nat → Prop} {w w' : World} {b o : Nat} {cs : List Value} (h : w.rangeAt b o cs) (hb : b < w.heap.size) (x : Only S w w') (hn : ¬ S b) : w'.rangeAt b o cs :=
  fun j v hj => (x.cells b _ hb hn).trans (h j v hj)
section
variable {w W W1 : World} {h ck q fq p pq g bq bf n : Nat} {fr tu ra rp full : Int} {vq vf : Value} {x : HSt}
theorem HpB.ne (k : HpB w W h ck q fq p pq g bq bf n fr tu ra rp full vq vf x) : (¬ h = ck ∧ ¬ h = q ∧ ¬ h = fq ∧ ¬ h = p ∧ ¬ h = pq ∧ ¬ h = g) ∧ (¬ ck = q ∧ ¬ ck = fq ∧ ¬ ck = p ∧ ¬ ck = pq ∧ ¬ ck = g) ∧ (¬ q = fq ∧ ¬ q = p ∧ ¬ q = pq ∧ ¬ q = g) ∧ (¬ fq = p ∧ ¬ fq = pq ∧ ¬ fq = g) ∧ (¬ p = pq ∧ ¬ p = g) ∧ ¬ pq = g := by
  have := k.nd
  simp only [List.nodup_cons, List.mem_cons, not_or, List.not_mem_nil, not_false_eq_true, and_true, List.nodup_nil] at this
  obtain ⟨⟨a1, a2, a3, a4, a5, a6⟩, ⟨b1, b2, b3, b4, b5⟩, ⟨d1, d2, d3, d4⟩, ⟨e1, e2, e3⟩, ⟨f1, f2⟩, g1⟩ := this
  exact ⟨⟨a1, a2, a3, a4, a5, a6⟩, ⟨b1, b2, b3, b4, b5⟩, ⟨d1, d2, d3, d4⟩, ⟨e1, e2, e3⟩, ⟨f1, f2⟩, g1⟩
/-- Blocks turn that are none of the heap's: all stands. -/
theorem HpB.only {S : Nat → Prop} (k : HpB w W h ck q fq p pq g bq bf n fr tu ra rp full vq vf x) (y : Only S W W1) (hb : Ext w W1) (hS : ∀ i, S i → i ∉ [h, ck, q, fq, p, pq, g] ∧ ¬ vq.ownBlock = some i ∧ ¬ vf.ownBlock = some i) (hE : EG w W1 fq bf fr tu vf x.lf) : HpB w W1 h ck q fq p pq g bq bf n fr tu ra rp full vq vf x := by
  have hn : ∀ b, b ∈ [h, ck, q, fq, p, pq, g] → ¬ S b := fun b hm hs => (hS b hs).1 hm
  exact ⟨hb, Nat.lt_of_lt_of_le k.hl y.size, (y.cells h _ k.hl (hn h (by simp))).trans k.c0, (y.cells h _ k.hl (hn h (by simp))).trans k.c1, rg_only k.rt k.hl y (hn h (by simp)), (y.cells h _ k.hl (hn h (by simp))).trans k.c8, (y.cells h _ k.hl (hn h (by simp))).trans k.c9, (y.cells h _ k.hl (hn h (by simp))).trans k.c10,
    ⟨Nat.lt_of_lt_of_le k.clk.1 y.size, (y.cells ck _ k.clk.1 (hn ck (by simp))).trans k.clk.2.1, (y.frozens ck _ k.clk.1 (hn ck (by simp))).trans k.clk.2.2⟩,
    k.qs.only y (hn q (by simp)) (fun b e hs => (hS b hs).2.1 e), hE, k.sh.only y (hn p (by simp)) (hn pq (by simp)), k.mp.only y (hn g (by simp)), k.lo, k.nd, k.rq, k.rf, k.okl⟩
theorem HpB.ext (k : HpB w W h ck q fq p pq g bq bf n fr tu ra rp full vq vf x) (y : Ext W W1) : HpB w W1 h ck q fq p pq g bq bf n fr tu ra rp full vq vf x :=
  k.only (S := fun _ => False) (Only.ofExt y) (k.base.trans y) (fun _ e => e.elim) (k.ex.ext y)
theorem Hp.ext {T : Nat → Prop} (k : Hp w W h ck q fq p pq g bq bf n fr tu ra rp full T x) (y : Ext W W1) : Hp w W1 h ck q fq p pq g bq bf n fr tu ra rp full T x := by
  obtain ⟨vq, vf, k, t⟩ := k
  exact ⟨vq, vf, k.ext y, t.same y.size⟩
theorem HpB.lts (k : HpB w W h ck q fq p pq g bq bf n fr tu ra rp full vq vf x) : (∀ i, i ∈ [h, ck, q, fq, p, pq, g] → i < W.heap.size) ∧ (∀ i, vq.ownBlock = some i → i < W.heap.size) ∧ (∀ i, vf.ownBlock = some i → i < W.heap.size) := by
  refine ⟨fun i hi => ?_, fun i e => (k.qs.2.2.2.1.lt i e).2, fun i e => (k.ex.1.1.2.2.2.1.lt i e).2⟩
  simp only [List.mem_cons, List.not_mem_nil, or_false] at hi
  rcases hi with e | e | e | e | e | e | e <;> subst e
  · exact k.hl
  · exact k.clk.1
  · exact k.qs.1
  · exact k.ex.1.1.1
  · exact k.sh.ltp
  · exact k.sh.ltq
  · exact k.mp.lt
/-- What is new is none of the heap's. -/
theorem Hp.more {T : Nat → Prop} (k : Hp w W h ck q fq p pq g bq bf n fr tu ra rp full T x) (y : Ext W W1) : Hp w W1 h ck q fq p pq g bq bf n fr tu ra rp full (fun i => T i ∨ W.heap.size ≤ i ∧ i < W1.heap.size) x := by
  obtain ⟨vq, vf, k, t⟩ := k
  obtain ⟨l1, l2, l3⟩ := k.lts
  refine ⟨vq, vf, k.ext y, ?_⟩
  rintro i (c | ⟨c1, c2⟩)
  · exact t.same y.size i c
  · exact ⟨c2, fun e => by have := l1 i e; omega, fun e => by have := l2 i e; omega, fun e => by have := l3 i e; omega⟩
theorem Hp.base {T : Nat → Prop} (k : Hp w W h ck q fq p pq g bq bf n fr tu ra rp full T x) : Ext w W := by
  obtain ⟨vq, vf, k, t⟩ := k
  exact k.base
theorem Hp.sh {T : Nat → Prop} (k : Hp w W h ck q fq p pq g bq bf n fr tu ra rp full T x) : Sh W p pq n x.P := by
  obtain ⟨vq, vf, k, t⟩ := k
  exact k.sh
end
theorem EG.only {S : Nat → Prop} {w0 W W1 : World} {q base : Nat} {fr tu : Int} {v : Value} {l : List Pr} (k : EG w0 W q base fr tu v l) (y : Only S W W1) (hE : Ext w0 W1) (h1 : ¬ S q) (h2 : ∀ g, v.ownBlock = some g → ¬ S g) : EG w0 W1 q base fr tu v l :=
  ⟨⟨k.1.1.only y h1 h2, hE, k.1.2.2⟩, k.2⟩
theorem Clk.keep {S : Nat → Prop} {w w' : World} {c : Nat} {t : Int} (k : Clk w c t) (y : Only S w w') (hn : ¬ S c) : Clk w' c t :=
  ⟨Nat.lt_of_lt_of_le k.1 y.size, (y.cells c _ k.1 hn).trans k.2.1, (y.frozens c _ k.1 hn).trans k.2.2⟩
section
variable {w W W1 : World} {h ck q fq p pq g bq bf n : Nat} {fr tu ra rp full : Int} {vq vf v' : Value} {x : HSt}
/-- What stands when blocks turn that are not the heap's own one. -/
theorem HpB.core {S : Nat → Prop} (k : HpB w W h ck q fq p pq g bq bf n fr tu ra rp full vq vf x) (y : Only S W W1) (hS : ¬ S h) : h < W1.heap.size ∧ W1.cell? ⟨h, 0, none⟩ = some (.pointer (some ⟨ck, 0, none⟩)) ∧ W1.cell? ⟨h, 1, none⟩ = some (.pointer (some ⟨q, 0, none⟩)) ∧ W1.rangeAt h 2 [.bool true, .int .i64 fr, .int .i64 tu, .int .i64 ra, .int .i64 rp, .int .i64 0] ∧ W1.cell? ⟨h, 8, none⟩ = some (.pointer (some ⟨fq, 0, none⟩)) ∧ W1.cell? ⟨h, 9, none⟩ = some (.pointer (some ⟨p, 0, none⟩)) ∧ W1.cell? ⟨h, 10, none⟩ = some (.map (some g)) :=
  ⟨Nat.lt_of_lt_of_le k.hl y.size, (y.cells h _ k.hl hS).trans k.c0, (y.cells h _ k.hl hS).trans k.c1, rg_only k.rt k.hl y hS, (y.cells h _ k.hl hS).trans k.c8, (y.cells h _ k.hl hS).trans k.c9, (y.cells h _ k.hl hS).trans k.c10⟩
theorem HpB.setMap {lv' : List Lv} (k : HpB w W h ck q fq p pq g bq bf n fr tu ra rp full vq vf x) (m : MapAt W1 g lv') (y : Only (· = g) W W1) (hok : ∀ z ∈ lv', okLv z) : HpB w W1 h ck q fq p pq g bq bf n fr tu ra rp full vq vf { x with lv := lv' } := by
  obtain ⟨⟨a1, a2, a3, a4, a5, a6⟩, ⟨b1, b2, b3, b4, b5⟩, ⟨d1, d2, d3, d4⟩, ⟨e1, e2, e3⟩, ⟨f1, f2⟩, g1⟩ := k.ne
  have hE : Ext w W1 := Ext.only k.base y (fun i hi => by subst hi; exact k.lo.2.2.2)
  have hvq : ∀ b, vq.ownBlock = some b → ¬ b = g := fun b e c => (k.rq b e).1 (by simp [c])
  have hvf : ∀ b, vf.ownBlock = some b → ¬ b = g := fun b e c => (k.rf b e) (by simp [c])
  obtain ⟨m1, m2, m3, m4, m5, m6, m7⟩ := k.core y a6
  exact ⟨hE, m1, m2, m3, m4, m5, m6, m7, k.clk.keep y b5, k.qs.only y d4 hvq, EG.only k.ex y hE e3 hvf, k.sh.only y f2 g1, m, k.lo, k.nd, k.rq, k.rf, hok, k.okl.2⟩
theorem HpB.setQs {lq' : List Hd} (k : HpB w W h ck q fq p pq g bq bf n fr tu ra rp full vq vf x) (m : Qs W1 q bq full (sumL lq') v' lq') (y : Only (tch q vq) W W1) (hv : ∀ b, v'.ownBlock = some b → vq.ownBlock = some b ∨ W.heap.size ≤ b) (hg : goodL lq') (ht : ∀ z ∈ lq', z.time ≤ x.t ∧ (0 ≤ z.at_ ∧ z.at_ ≤ 16777216)) : HpB w W1 h ck q fq p pq g bq bf n fr tu ra rp full v' vf { x with lq := lq' } := by
  obtain ⟨⟨a1, a2, a3, a4, a5, a6⟩, ⟨b1, b2, b3, b4, b5⟩, ⟨d1, d2, d3, d4⟩, ⟨e1, e2, e3⟩, ⟨f1, f2⟩, g1⟩ := k.ne
  have hE : Ext w W1 := k.qs.extOf k.base k.lo.2.1 y
  have hnot : ∀ b, b ∈ [h, ck, q, fq, p, pq, g] → ¬ b = q → ¬ tch q vq b := fun b hb hbq => by rintro (c | c); exact hbq c; exact (k.rq b c).1 hb
  have hvf : ∀ b, vf.ownBlock = some b → ¬ tch q vq b := fun b e => by rintro (c | c); exact k.rf b e (by simp [c]); exact (k.rq b c).2 e
  obtain ⟨m1, m2, m3, m4, m5, m6, m7⟩ := k.core y (hnot h (by simp) a2)
  refine ⟨hE, m1, m2, m3, m4, m5, m6, m7, k.clk.keep y (hnot ck (by simp) b1), m, EG.only k.ex y hE (hnot fq (by simp) (fun e => d1 e.symm)) hvf, k.sh.only y (hnot p (by simp) (fun e => d2 e.symm)) (hnot pq (by simp) (fun e => d3 e.symm)), k.mp.only y (hnot g (by simp) (fun e => d4 e.symm)), k.lo, k.nd, ?_, k.rf, k.okl.1, hg, k.okl.2.2.1, ht⟩
  intro b e
  rcases hv b e with c | c
  · exact k.rq b c
  · have hlt : ∀ i, i ∈ [h, ck, q, fq, p, pq, g] → i < W.heap.size := by
      intro i hi
      simp only [List.mem_cons, List.not_mem_nil, or_false] at hi
      rcases hi with e | e | e | e | e | e | e <;> subst e
      · exact k.hl
      · exact k.clk.1
      · exact k.qs.1
      · exact k.ex.1.1.1
      · exact k.sh.ltp
      · exact k.sh.ltq
      · exact k.mp.lt
    refine ⟨fun hm => by have := hlt b hm; omega, fun e2 => ?_⟩
    have := (k.ex.1.1.2.2.2.1.lt b e2).2
    omega
theorem HpB.setEx {lf' : List Pr} (k : HpB w W h ck q fq p pq g bq bf n fr tu ra rp full vq vf x) (m : EG w W1 fq bf fr tu v' lf') (y : Only (tch fq vf) W W1) (hv : ∀ b, v'.ownBlock = some b → vf.ownBlock = some b ∨ W.heap.size ≤ b) : HpB w W1 h ck q fq p pq g bq bf n fr tu ra rp full vq v' { x with lf := lf' } := by
  obtain ⟨⟨a1, a2, a3, a4, a5, a6⟩, ⟨b1, b2, b3, b4, b5⟩, ⟨d1, d2, d3, d4⟩, ⟨e1, e2, e3⟩, ⟨f1, f2⟩, g1⟩ := k.ne
  have hE : Ext w W1 := m.1.2.1
  have hnot : ∀ b, b ∈ [h, ck, q, fq, p, pq, g] → ¬ b = fq → ¬ tch fq vf b := fun b hb hbq => by rintro (c | c); exact hbq c; exact (k.rf b c) hb
  have hvq : ∀ b, vq.ownBlock = some b → ¬ tch fq vf b := fun b e => by rintro (c | c); exact (k.rq b e).1 (by simp [c]); exact (k.rq b e).2 c
  obtain ⟨m1, m2, m3, m4, m5, m6, m7⟩ := k.core y (hnot h (by simp) a3)
  have hlt : ∀ i, i ∈ [h, ck, q, fq, p, pq, g] → i < W.heap.size := by
    intro i hi
    simp only [List.mem_cons, List.not_mem_nil, or_false] at hi
    rcases hi with e | e | e | e | e | e | e <;> subst e
    · exact k.hl
    · exact k.clk.1
    · exact k.qs.1
    · exact k.ex.1.1.1
    · exact k.sh.ltp
    · exact k.sh.ltq
    · exact k.mp.lt
  refine ⟨hE, m1, m2, m3, m4, m5, m6, m7, k.clk.keep y (hnot ck (by simp) b2), k.qs.only y (hnot q (by simp) d1) hvq, m, k.sh.only y (hnot p (by simp) (fun e => e1 e.symm)) (hnot pq (by simp) (fun e => e2 e.symm)), k.mp.only y (hnot g (by simp) (fun e => e3 e.symm)), k.lo, k.nd, ?_, ?_, k.okl⟩
  · intro b e
    refine ⟨(k.rq b e).1, fun e2 => ?_⟩
    rcases hv b e2 with c | c
    · exact (k.rq b e).2 c
    · have := (k.qs.2.2.2.1.lt b e).2
      omega
  · intro b e hm
    rcases hv b e with c | c
    · exact k.rf b c hm
    · have := hlt b hm
      omega
theorem HpB.setSh {P' : Nat → Bool} (k : HpB w W h ck q fq p pq g bq bf n fr tu ra rp full vq vf x) (m : Sh W1 p pq n P') (y : Only (· = pq) W W1) : HpB w W1 h ck q fq p pq g bq bf n fr tu ra rp full vq vf { x with P := P' } := by
  obtain ⟨⟨a1, a2, a3, a4, a5, a6⟩, ⟨b1, b2, b3, b4, b5⟩, ⟨d1, d2, d3, d4⟩, ⟨e1, e2, e3⟩, ⟨f1, f2⟩, g1⟩ := k.ne
  have hE : Ext w W1 := Ext.only k.base y (fun i hi => by subst hi; exact k.lo.2.2.1)
  have hvq : ∀ b, vq.ownBlock = some b → ¬ b = pq := fun b e c => (k.rq b e).1 (by simp [c])
  have hvf : ∀ b, vf.ownBlock = some b → ¬ b = pq := fun b e c => (k.rf b e) (by simp [c])
  obtain ⟨m1, m2, m3, m4, m5, m6, m7⟩ := k.core y a5
  exact ⟨hE, m1, m2, m3, m4, m5, m6, m7, k.clk.keep y b4, k.qs.only y d3 hvq, EG.only k.ex y hE e2 hvf, m, k.mp.only y (fun e => g1 e.symm), k.lo, k.nd, k.rq, k.rf, k.okl⟩
theorem HpB.setClk {u : Int} (k : HpB w W h ck q fq p pq g bq bf n fr tu ra rp full vq vf x) (m : Clk W1 ck u) (y : Only (· = ck) W W1) (hu : x.t ≤ u ∧ u ≤ 100000) : HpB w W1 h ck q fq p pq g bq bf n fr tu ra rp full vq vf { x with t := u } := by
  obtain ⟨⟨a1, a2, a3, a4, a5, a6⟩, ⟨b1, b2, b3, b4, b5⟩, ⟨d1, d2, d3, d4⟩, ⟨e1, e2, e3⟩, ⟨f1, f2⟩, g1⟩ := k.ne
  have hE : Ext w W1 := Ext.only k.base y (fun i hi => by subst hi; exact k.lo.1)
  have hvq : ∀ b, vq.ownBlock = some b → ¬ b = ck := fun b e c => (k.rq b e).1 (by simp [c])
  have hvf : ∀ b, vf.ownBlock = some b → ¬ b = ck := fun b e c => (k.rf b e) (by simp [c])
  obtain ⟨m1, m2, m3, m4, m5, m6, m7⟩ := k.core y a1
  exact ⟨hE, m1, m2, m3, m4, m5, m6, m7, m, k.qs.only y (fun e => b1 e.symm) hvq, EG.only k.ex y hE (fun e => b2 e.symm) hvf, k.sh.only y (fun e => b3 e.symm) (fun e => b4 e.symm), k.mp.only y (fun e => b5 e.symm), k.lo, k.nd, k.rq, k.rf, k.okl.1, k.okl.2.1, ⟨by have := k.okl.2.2.1; simp only; omega, hu.2⟩, fun z hz => ⟨by have := (k.okl.2.2.2 z hz).1; simp only; omega, (k.okl.2.2.2 z hz).2⟩⟩
end
/-- What is wrong with one, or the place of its block. -/
def ofE (lv : List Lv) (c : Cap) : Int := if c.tag = false then 41 else if ¬ c.type = 0 then 42 else match idxL lv c.base with
  | none => 3
  | some i => if c.top = c.base + (lv.getD i default).asked then 0 else 43
def zeroLv : Lv := ⟨0, 0, 0⟩
def ofB (lv : List Lv) (c : Cap) : Lv := if ofE lv c = 0 then (match idxL lv c.base with | none => zeroLv | some i => lv.getD i default) else zeroLv
theorem idxL_some {lv : List Lv} {k : Int} {i : Nat} (h : idxL lv k = some i) : ∃ hi : i < lv.length, (lv[i]).at_ = k := by
  unfold idxL at h
  obtain ⟨hi, h1, _⟩ := List.findIdx?_eq_some_iff_getElem.1 h
  exact ⟨hi, by simpa using h1⟩
theorem quiet_look {o : Oper} {a : Act} {C : World → Prop} {K : Act → Prop} (m i : Operand) (ho : o.op = .lookup 67 m i true) (g : Nat) (lv : List Lv) (k : Int) (hm : a.eval m = .map (some g)) (hi : a.eval i = .int .i64 k) (vv : Value) (bb : Bool) (hr : ((idxL lv k).map fun j => (lv.getD j default).val).getD (.agg #[.int .i64 0, .int .i64 0]) = vv ∧ (idxL lv k).isSome = bb) (h : ∀ w, C w → MapAt w g lv)
    (hK : K (a.put o.dst (.tuple #[vv, .bool bb]))) : o.quiet Tryd.prog a C K := by
  obtain ⟨rfl, rfl⟩ := hr
  refine ⟨_, fun w hw => ?_, hK⟩
  have hz : (zeroValue 73).run Tryd.prog w = .ok (.agg #[.int .i64 0, .int .i64 0]) w := by kernel_rfl
  have hr := (h w hw).look k Tryd.prog 67 3 73 Tryd.underlying67 Tryd.underlying3 _ hz
  unfold Oper.quietAt execOp
  rw [ho]
  simp only [Sem.run_bind, Sem.run_pure, Sem.run_map, Result.andThen_ok, hm, hi, hr]
  exact ⟨rfl, rfl⟩
set_option maxRecDepth 100000 in
set_option maxHeartbeats 4000000 in
theorem of_ (w W : World) (h ck q fq p pq g bq bf n : Nat) (fr tu ra rp full : Int) (vq vf : Value) (x : HSt) (k : HpB w W h ck q fq p pq g bq bf n fr tu ra rp full vq vf x) (t : Bool) (b tp at_ pm ty : Int) (hb : -9223372036854775808 ≤ b ∧ b ≤ 9223372036854775807) : Calls Tryd.prog 31 #[.pointer (some ⟨h, 0, none⟩), .agg #[.bool t, .int .i64 b, .int .i64 tp, .int .i64 at_, .int .i64 pm, .int .i64 ty]] W fun e W' => e = .returned (.tuple #[(ofB x.lv ⟨t, b, tp, at_, pm, ty⟩).val, .int .i64 (ofE x.lv ⟨t, b, tp, at_, pm, ty⟩)]) ∧ Ext W W' := by
  have HK := hid k
  have c10 := k.c10
  have hl := k.hl
  clear k
  cases t with
  | false =>
    go_enter Tryd.func31, Tryd.ntmps31
    go_wp2
    exact bodyPost_ret (v := .tuple #[.agg #[.int .i64 0, .int .i64 0], .int .i64 41]) (by simp [results, Tryd.results31, go_sem]) rfl ⟨by simp [ofE, ofB, zeroLv, Lv.val, *], (by repeat (first | (with_reducible exact Ext.refl _) | (with_reducible refine Ext.undrew ?_) | (with_reducible refine Ext.grow ?_ _) | (with_reducible refine Ext.drew ?_) | (with_reducible refine Ext.drewN ?_ _) | (with_reducible refine Ext.alloc ?_ _) | (with_reducible assumption) | ((with_reducible refine Ext.setCell ?_ ?_ _); rotate_left; (first | exact Nat.le_refl _ | ((try dsimp only); (try simp only [World.size_alloc, grow_size, World.size_setCell]); omega)))))⟩
  | true =>
    by_cases hty : ty = 0
    · subst hty
      cases hix : idxL x.lv b with
      | none =>
        have HIX := hid (show ((idxL x.lv b).map fun j => (x.lv.getD j default).val).getD (.agg #[.int .i64 0, .int .i64 0]) = .agg #[.int .i64 0, .int .i64 0] ∧ (idxL x.lv b).isSome = false by rw [hix]; exact ⟨rfl, rfl⟩)
        go_enter Tryd.func31, Tryd.ntmps31
        go_upto_region 5 with (fail)
        refine wp_region_step (.rd 0 (.rd 1 (.rd 2 (.rd 3 (.rd 4 (.rd 5 (.rd 6 (.rd 7 (.rd 8 (.rd 9 (.ac 10 (.ac 11 (.rd 12 .done))))))))))))) (by kernel_rfl) (by kernel_rfl) (fun _ _ d _ _ h => by cases d <;> exact h) (by simp only [Ord.map, nthOp, List.append]; rfl) ?_
        intro d0
        repeat (refine step_read (by rfl) (fun K hK => ?_); (first | (refine quiet_look (.tmp 20) (.tmp 22) rfl g x.lv b rfl rfl (.agg #[.int .i64 0, .int .i64 0]) false HIX.out (fun V hV => by obtain ⟨d, rfl⟩ := hV; exact HK.out.mp.ext (Ext.trans (by repeat (first | (with_reducible exact Ext.refl _) | (with_reducible refine Ext.undrew ?_) | (with_reducible refine Ext.grow ?_ _) | (with_reducible refine Ext.drew ?_) | (with_reducible refine Ext.drewN ?_ _) | (with_reducible refine Ext.alloc ?_ _) | (with_reducible assumption) | ((with_reducible refine Ext.setCell ?_ ?_ _); rotate_left; (first | exact Nat.le_refl _ | ((try dsimp only); (try simp only [World.size_alloc, grow_size, World.size_setCell]); omega))))) (Ext.grow (Ext.refl _) d))) ?_) | go_big_quiet_op); refine hK _ ?_; clear hK K; (try simp only [Act.put, List.setIfInBounds_toArray, List.set_cons_zero, List.set_cons_succ]))
        refine step_act (by rfl) (fun K hK => ?_)
        go_wp2_with fail
        refine ⟨_, Ext.refl _, (by repeat (first | (with_reducible exact Ext.refl _) | (with_reducible refine Ext.undrew ?_) | (with_reducible refine Ext.grow ?_ _) | (with_reducible refine Ext.drew ?_) | (with_reducible refine Ext.drewN ?_ _) | (with_reducible refine Ext.alloc ?_ _) | (with_reducible assumption) | ((with_reducible refine Ext.setCell ?_ ?_ _); rotate_left; (first | exact Nat.le_refl _ | ((try dsimp only); (try simp only [World.size_alloc, grow_size, World.size_setCell]); omega))))), ?_⟩
        refine step_act (by rfl) (fun K hK => ?_)
        go_wp2_with fail
        refine ⟨_, Ext.refl _, (by repeat (first | (with_reducible exact Ext.refl _) | (with_reducible refine Ext.undrew ?_) | (with_reducible refine Ext.grow ?_ _) | (with_reducible refine Ext.drew ?_) | (with_reducible refine Ext.drewN ?_ _) | (with_reducible refine Ext.alloc ?_ _) | (with_reducible assumption) | ((with_reducible refine Ext.setCell ?_ ?_ _); rotate_left; (first | exact Nat.le_refl _ | ((try dsimp only); (try simp only [World.size_alloc, grow_size, World.size_setCell]); omega))))), ?_⟩
        repeat (refine step_read (by rfl) (fun K hK => ?_); go_big_quiet_op; refine hK _ ?_; clear hK K)
        refine step_nil ?_
        go_wp2
        exact bodyPost_ret (v := .tuple #[.agg #[.int .i64 0, .int .i64 0], .int .i64 3]) (by simp [results, Tryd.results31, go_sem]) rfl ⟨by simp [ofE, ofB, zeroLv, Lv.val, *], (by repeat (first | (with_reducible exact Ext.refl _) | (with_reducible refine Ext.undrew ?_) | (with_reducible refine Ext.grow ?_ _) | (with_reducible refine Ext.drew ?_) | (with_reducible refine Ext.drewN ?_ _) | (with_reducible refine Ext.alloc ?_ _) | (with_reducible assumption) | ((with_reducible refine Ext.setCell ?_ ?_ _); rotate_left; (first | exact Nat.le_refl _ | ((try dsimp only); (try simp only [World.size_alloc, grow_size, World.size_setCell]); omega)))))⟩
      | some i =>
        obtain ⟨hi, hat⟩ := idxL_some hix
        obtain ⟨y, hy⟩ : ∃ y, x.lv.getD i default = y := ⟨_, rfl⟩
        have hyl : x.lv[i] = y := by rw [← hy]; simp [List.getD, hi]
        have hyo : okLv y := by rw [← hyl]; exact HK.out.okl.1 _ (List.getElem_mem hi)
        rw [hyl] at hat
        have HIX := hid (show ((idxL x.lv b).map fun j => (x.lv.getD j default).val).getD (.agg #[.int .i64 0, .int .i64 0]) = .agg #[.int .i64 y.asked, .int .i64 y.takes] ∧ (idxL x.lv b).isSome = true by rw [hix]; exact ⟨by simp only [Option.map_some, Option.getD_some, hy]; rfl, rfl⟩)
        have HIX0 := hid hix
        have HY := hid hy
        obtain ⟨⟨o1, o2⟩, ⟨o3, o4⟩, o5, o6⟩ := hyo
        have hb0 : 0 ≤ b := by omega
        have hb1 : b ≤ 16777216 := by omega
        have HAT := hid hat
        clear hix hy hyl hat hi hb
        by_cases htop : tp = b + y.asked
        · subst htop
          go_enter Tryd.func31, Tryd.ntmps31
          go_upto_region 5 with (fail)
          refine wp_region_step (.rd 0 (.rd 1 (.rd 2 (.rd 3 (.rd 4 (.rd 5 (.rd 6 (.rd 7 (.rd 8 (.rd 9 (.ac 10 (.ac 11 (.rd 12 .done))))))))))))) (by kernel_rfl) (by kernel_rfl) (fun _ _ d _ _ h => by cases d <;> exact h) (by simp only [Ord.map, nthOp, List.append]; rfl) ?_
          intro d0
          repeat (refine step_read (by rfl) (fun K hK => ?_); (first | (refine quiet_look (.tmp 20) (.tmp 22) rfl g x.lv b rfl rfl (.agg #[.int .i64 y.asked, .int .i64 y.takes]) true HIX.out (fun V hV => by obtain ⟨d, rfl⟩ := hV; exact HK.out.mp.ext (Ext.trans (by repeat (first | (with_reducible exact Ext.refl _) | (with_reducible refine Ext.undrew ?_) | (with_reducible refine Ext.grow ?_ _) | (with_reducible refine Ext.drew ?_) | (with_reducible refine Ext.drewN ?_ _) | (with_reducible refine Ext.alloc ?_ _) | (with_reducible assumption) | ((with_reducible refine Ext.setCell ?_ ?_ _); rotate_left; (first | exact Nat.le_refl _ | ((try dsimp only); (try simp only [World.size_alloc, grow_size, World.size_setCell]); omega))))) (Ext.grow (Ext.refl _) d))) ?_) | go_big_quiet_op); refine hK _ ?_; clear hK K; (try simp only [Act.put, List.setIfInBounds_toArray, List.set_cons_zero, List.set_cons_succ]))
          refine step_act (by rfl) (fun K hK => ?_)
          go_wp2_with fail
          refine ⟨_, Ext.refl _, (by repeat (first | (with_reducible exact Ext.refl _) | (with_reducible refine Ext.undrew ?_) | (with_reducible refine Ext.grow ?_ _) | (with_reducible refine Ext.drew ?_) | (with_reducible refine Ext.drewN ?_ _) | (with_reducible refine Ext.alloc ?_ _) | (with_reducible assumption) | ((with_reducible refine Ext.setCell ?_ ?_ _); rotate_left; (first | exact Nat.le_refl _ | ((try dsimp only); (try simp only [World.size_alloc, grow_size, World.size_setCell]); omega))))), ?_⟩
          refine step_act (by rfl) (fun K hK => ?_)
          go_wp2_with fail
          refine ⟨_, Ext.refl _, (by repeat (first | (with_reducible exact Ext.refl _) | (with_reducible refine Ext.undrew ?_) | (with_reducible refine Ext.grow ?_ _) | (with_reducible refine Ext.drew ?_) | (with_reducible refine Ext.drewN ?_ _) | (with_reducible refine Ext.alloc ?_ _) | (with_reducible assumption) | ((with_reducible refine Ext.setCell ?_ ?_ _); rotate_left; (first | exact Nat.le_refl _ | ((try dsimp only); (try simp only [World.size_alloc, grow_size, World.size_setCell]); omega))))), ?_⟩
          repeat (refine step_read (by rfl) (fun K hK => ?_); go_big_quiet_op; refine hK _ ?_; clear hK K)
          refine step_nil ?_
          go_wp2
          have hres : (ofB x.lv ⟨true, b, b + y.asked, at_, pm, 0⟩).val = .agg #[.int .i64 y.asked, .int .i64 y.takes] ∧ ofE x.lv ⟨true, b, b + y.asked, at_, pm, 0⟩ = 0 := by simp [ofE, ofB, Lv.val, HIX0.out, HY.out, -List.getD_eq_getElem?_getD]
          exact bodyPost_ret (v := .tuple #[.agg #[.int .i64 y.asked, .int .i64 y.takes], .int .i64 0]) (by simp [results, Tryd.results31, go_sem]) rfl ⟨by rw [hres.1, hres.2], (by repeat (first | (with_reducible exact Ext.refl _) | (with_reducible refine Ext.undrew ?_) | (with_reducible refine Ext.grow ?_ _) | (with_reducible refine Ext.drew ?_) | (with_reducible refine Ext.drewN ?_ _) | (with_reducible refine Ext.alloc ?_ _) | (with_reducible assumption) | ((with_reducible refine Ext.setCell ?_ ?_ _); rotate_left; (first | exact Nat.le_refl _ | ((try dsimp only); (try simp only [World.size_alloc, grow_size, World.size_setCell]); omega)))))⟩
        · skip
          go_enter Tryd.func31, Tryd.ntmps31
          go_upto_region 5 with (fail)
          refine wp_region_step (.rd 0 (.rd 1 (.rd 2 (.rd 3 (.rd 4 (.rd 5 (.rd 6 (.rd 7 (.rd 8 (.rd 9 (.ac 10 (.ac 11 (.rd 12 .done))))))))))))) (by kernel_rfl) (by kernel_rfl) (fun _ _ d _ _ h => by cases d <;> exact h) (by simp only [Ord.map, nthOp, List.append]; rfl) ?_
          intro d0
          repeat (refine step_read (by rfl) (fun K hK => ?_); (first | (refine quiet_look (.tmp 20) (.tmp 22) rfl g x.lv b rfl rfl (.agg #[.int .i64 y.asked, .int .i64 y.takes]) true HIX.out (fun V hV => by obtain ⟨d, rfl⟩ := hV; exact HK.out.mp.ext (Ext.trans (by repeat (first | (with_reducible exact Ext.refl _) | (with_reducible refine Ext.undrew ?_) | (with_reducible refine Ext.grow ?_ _) | (with_reducible refine Ext.drew ?_) | (with_reducible refine Ext.drewN ?_ _) | (with_reducible refine Ext.alloc ?_ _) | (with_reducible assumption) | ((with_reducible refine Ext.setCell ?_ ?_ _); rotate_left; (first | exact Nat.le_refl _ | ((try dsimp only); (try simp only [World.size_alloc, grow_size, World.size_setCell]); omega))))) (Ext.grow (Ext.refl _) d))) ?_) | go_big_quiet_op); refine hK _ ?_; clear hK K; (try simp only [Act.put, List.setIfInBounds_toArray, List.set_cons_zero, List.set_cons_succ]))
          refine step_act (by rfl) (fun K hK => ?_)
          go_wp2_with fail
          refine ⟨_, Ext.refl _, (by repeat (first | (with_reducible exact Ext.refl _) | (with_reducible refine Ext.undrew ?_) | (with_reducible refine Ext.grow ?_ _) | (with_reducible refine Ext.drew ?_) | (with_reducible refine Ext.drewN ?_ _) | (with_reducible refine Ext.alloc ?_ _) | (with_reducible assumption) | ((with_reducible refine Ext.setCell ?_ ?_ _); rotate_left; (first | exact Nat.le_refl _ | ((try dsimp only); (try simp only [World.size_alloc, grow_size, World.size_setCell]); omega))))), ?_⟩
          refine step_act (by rfl) (fun K hK => ?_)
          go_wp2_with fail
          refine ⟨_, Ext.refl _, (by repeat (first | (with_reducible exact Ext.refl _) | (with_reducible refine Ext.undrew ?_) | (with_reducible refine Ext.grow ?_ _) | (with_reducible refine Ext.drew ?_) | (with_reducible refine Ext.drewN ?_ _) | (with_reducible refine Ext.alloc ?_ _) | (with_reducible assumption) | ((with_reducible refine Ext.setCell ?_ ?_ _); rotate_left; (first | exact Nat.le_refl _ | ((try dsimp only); (try simp only [World.size_alloc, grow_size, World.size_setCell]); omega))))), ?_⟩
          repeat (refine step_read (by rfl) (fun K hK => ?_); go_big_quiet_op; refine hK _ ?_; clear hK K)
          refine step_nil ?_
          go_wp2
          have hres : (ofB x.lv ⟨true, b, tp, at_, pm, 0⟩).val = .agg #[.int .i64 0, .int .i64 0] ∧ ofE x.lv ⟨true, b, tp, at_, pm, 0⟩ = 43 := by simp [ofE, ofB, Lv.val, zeroLv, HIX0.out, HY.out, htop, -List.getD_eq_getElem?_getD]
          exact bodyPost_ret (v := .tuple #[.agg #[.int .i64 0, .int .i64 0], .int .i64 43]) (by simp [results, Tryd.results31, go_sem]) rfl ⟨by rw [hres.1, hres.2], (by repeat (first | (with_reducible exact Ext.refl _) | (with_reducible refine Ext.undrew ?_) | (with_reducible refine Ext.grow ?_ _) | (with_reducible refine Ext.drew ?_) | (with_reducible refine Ext.drewN ?_ _) | (with_reducible refine Ext.alloc ?_ _) | (with_reducible assumption) | ((with_reducible refine Ext.setCell ?_ ?_ _); rotate_left; (first | exact Nat.le_refl _ | ((try dsimp only); (try simp only [World.size_alloc, grow_size, World.size_setCell]); omega)))))⟩
    · skip
      go_enter Tryd.func31, Tryd.ntmps31
      go_wp2
      exact bodyPost_ret (v := .tuple #[.agg #[.int .i64 0, .int .i64 0], .int .i64 42]) (by simp [results, Tryd.results31, go_sem]) rfl ⟨by simp [ofE, ofB, zeroLv, Lv.val, *], (by repeat (first | (with_reducible exact Ext.refl _) | (with_reducible refine Ext.undrew ?_) | (with_reducible refine Ext.grow ?_ _) | (with_reducible refine Ext.drew ?_) | (with_reducible refine Ext.drewN ?_ _) | (with_reducible refine Ext.alloc ?_ _) | (with_reducible assumption) | ((with_reducible refine Ext.setCell ?_ ?_ _); rotate_left; (first | exact Nat.le_refl _ | ((try dsimp only); (try simp only [World.size_alloc, grow_size, World.size_setCell]); omega)))))⟩

end Go.Proofs.YtoeiemeffiiidaaDoor
