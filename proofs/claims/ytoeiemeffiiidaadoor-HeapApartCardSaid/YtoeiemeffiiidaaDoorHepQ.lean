/- Layer 14: what a law keeps of what was given out. -/
import Derived.Test.YtoeiemeffiiidaaDoorHepP
import Derived.Test.YtoeiemeffiiidaaDoorRwF
namespace Go.Proofs.YtoeiemeffiiidaaDoor
set_option linter.unusedSimpArgs false
set_option linter.unusedVariables false
open Go.RowKit

theorem hp_foreign {w W W1 : World} {h ck q fq p pq g bq bf n : Nat} {fr tu ra rp full : Int} {x : HSt} {T : Nat → Prop} (k : Hp w W h ck q fq p pq g bq bf n fr tu ra rp full T x) (b : Nat) (hb : T b) (hl : w.heap.size ≤ b) (y : Only (· = b) W W1) : Hp w W1 h ck q fq p pq g bq bf n fr tu ra rp full T x := by
  obtain ⟨vq, vf, k, t⟩ := k
  obtain ⟨t1, t2, t3, t4⟩ := t b hb
  have hE : Ext w W1 := k.base.only y (by rintro i rfl; exact hl)
  have hEG : EG w W1 fq bf fr tu vf x.lf := EG.only (S := (· = b)) k.ex y hE (by rintro rfl; exact t2 (by simp)) (by rintro g e rfl; exact t4 e)
  exact ⟨vq, vf, k.only y hE (by rintro i rfl; exact ⟨t2, t3, t4⟩) hEG, t.same y.size⟩
theorem row_atc {w : World} {b : Nat} {vs : List Value} (h : Row w b 0 vs) (j : Nat) (hj : j < vs.length) (u : Value) : Row (w.setCell ⟨b, j, none⟩ u) b 0 (vs.set j u) := by
  have h0 : w.cell? ⟨b, j, none⟩ = some vs[j] := by have := h.at_ j vs[j] (by simp); simpa using this
  refine ⟨by rw [World.size_setCell]; exact h.lt, fun i v hi => ?_, fun i hi => ?_⟩
  · by_cases e : i = j
    · subst e
      rw [List.getElem?_set_self hj] at hi
      obtain rfl : u = v := by simpa using hi
      rw [Nat.zero_add]
      apply World.cell?_setCell_same
      exact h0
    · rw [List.getElem?_set_ne (by omega)] at hi
      rw [Nat.zero_add, World.cell?_setCell_other (h := show (⟨b, j, none⟩ : Addr) ≠ ⟨b, i, none⟩ from fun c => e (by injection c with c1 c2; exact c2.symm))]
      simpa using h.at_ i v hi
  · rw [World.frozen?_setCell]
    exact h.free i (by simpa using hi)
/-- What was given out. -/
structure Bk where
  c : Cap
  n : Int
  freed : Bool
  begun : Bool
  over : Bool
instance : Inhabited Bk := ⟨⟨⟨false, 0, 0, 0, 0, 0⟩, 0, false, false, false⟩⟩
def Bk.cells (b : Bk) : List Value := [.bool b.c.tag, .int .i64 b.c.base, .int .i64 b.c.top, .int .i64 b.c.at_, .int .i64 b.c.perms, .int .i64 b.c.type, .int .i64 b.n, .bool b.freed, .bool b.begun, .bool b.over]
theorem Bk.len (z : Bk) : z.cells.length = 10 := rfl
theorem bk_one (z : Bk) : ∀ u ∈ z.cells, u.oneCell' = true := by
  intro u hu
  simp [Bk.cells] at hu
  rcases hu with rfl | rfl | rfl | rfl | rfl | rfl | rfl | rfl | rfl | rfl <;> rfl
theorem info_bk : InfoN Tryd.prog 35 10 64 := infoN_of (by kernel_rfl)
/-- How the heap stands to one that was given out. -/
def BI (x : HSt) (b : Bk) : Prop :=
  (b.freed = false → b.over = false ∧ b.begun = false ∧ ∃ z ∈ x.lv, z.at_ = b.c.base ∧ z.takes = b.n ∧ b.c.top = b.c.base + z.asked ∧ b.c.tag = true ∧ b.c.type = 0) ∧
  (b.freed = true → b.over = false → ∃ z ∈ x.lq, z.at_ = b.c.base ∧ z.n = b.n ∧ (b.begun = false → z.time = x.t ∨ z.time + 1 = x.t ∧ z.time % 2 = 1))
structure BA (x : HSt) (l : List Bk) : Prop where
  each : ∀ b ∈ l, BI x b
  diff : l.Pairwise (fun b d => b.over = false → d.over = false → ¬ b.c.base = d.c.base)
  bd : ∀ b ∈ l, (0 ≤ b.c.base ∧ b.c.base ≤ 16777216) ∧ 0 ≤ b.n ∧ b.n ≤ 65536
theorem BI.iv {x : HSt} {b : Bk} (h : BI x b) (ho : b.over = false) : (⟨b.c.base, b.c.base + b.n⟩ : Pr) ∈ ivP x := by
  cases hf : b.freed with
  | false =>
    obtain ⟨_, _, z, hz, e1, e2, _⟩ := h.1 hf
    refine List.mem_append_left _ (List.mem_map.2 ⟨z, hz, ?_⟩)
    unfold lvP
    rw [e1, e2]
  | true =>
    obtain ⟨z, hz, e1, e2, _⟩ := h.2 hf ho
    refine List.mem_append_right _ (List.mem_map.2 ⟨z, hz, ?_⟩)
    unfold lqP
    rw [e1, e2]
theorem HI.uniq {fr tu : Int} {x : HSt} (h : HI fr tu x) {i j : Nat} (hi : i < x.lv.length) (hj : j < x.lv.length) (e : (x.lv[i]).at_ = (x.lv[j]).at_) : i = j := by
  have key : ∀ (i j : Nat) (hi : i < x.lv.length) (hj : j < x.lv.length), (x.lv[i]).at_ = (x.lv[j]).at_ → ¬ i < j := by
    intro i j hi hj e hij
    have hp := (List.pairwise_append.1 h.1.held.each).1
    have h1 := (List.pairwise_iff_getElem.1 hp) i j (by simpa using hi) (by simpa using hj) hij
    simp only [List.getElem_map] at h1
    have oi := (h.1.held.ok (lvP x.lv[i]) (List.mem_append_left _ (List.mem_map_of_mem (List.getElem_mem hi)))).2.2.2.1
    have oj := (h.1.held.ok (lvP x.lv[j]) (List.mem_append_left _ (List.mem_map_of_mem (List.getElem_mem hj)))).2.2.2.1
    exact h1 (x.lv[i]).at_ ⟨Int.le_refl _, oi⟩ ⟨by show (x.lv[j]).at_ ≤ (x.lv[i]).at_; omega, by rw [e]; exact oj⟩
  rcases Nat.lt_trichotomy i j with c | c | c
  · exact absurd c (key i j hi hj e)
  · exact c
  · exact absurd c (key j i hj hi e.symm)
theorem BA.apart {fr tu : Int} {x : HSt} {l : List Bk} (h : BA x l) (hI : HI fr tu x) {m : Int} (hk : alOk x m = true) : ∀ b ∈ l, b.over = false → ¬ (alAt x m < b.c.base + b.n ∧ b.c.base < alAt x m + roundT m) := by
  intro b hb ho hc
  obtain ⟨_, k2⟩ := alOk_take hk
  have hT := takeF_yesT hI.2 hI.1.g k2
  have hin := hT.2.2.2.2.2.1
  have hm := (h.each b hb).iv ho
  have hf := hI.1.held.free _ hm
  have hlt := (hI.1.held.ok _ hm).2.2.2.1
  simp only at hlt
  have h1 := hT.1
  change ∀ y, alAt x m ≤ y → y < alAt x m + roundT m → inL y x.lf at hin
  rcases Int.lt_or_le (alAt x m) b.c.base with c | c
  · exact hf b.c.base ⟨Int.le_refl _, hlt⟩ (hin _ (by omega) hc.2)
  · exact hf (alAt x m) ⟨c, hc.1⟩ (hin _ (Int.le_refl _) (by omega))
theorem BA.al {fr tu : Int} {x : HSt} {l : List Bk} (h : BA x l) (hI : HI fr tu x) (h0 : 0 ≤ fr) (h1 : tu ≤ 16777216) {m : Int} (hk : alOk x m = true) : BA (x.al m) (l ++ [⟨alC 31 x m, roundT m, false, false, false⟩]) := by
  have hc : alC 31 x m = ⟨true, alAt x m, alAt x m + max m 1, alAt x m, 31, 0⟩ := by unfold alC; rw [if_pos hk]
  have hr := roundT_bdA (alOk_take hk).1
  have hbd := al_bd hI.2 hk
  have hap := h.apart hI hk
  refine ⟨fun b hb => ?_, ?_, fun b hb => ?_⟩
  · rcases List.mem_append.1 hb with hb | hb
    · obtain ⟨a1, a2⟩ := h.each b hb
      refine ⟨fun hf => ?_, fun hf ho => ?_⟩
      · obtain ⟨b1, b2, z, hz, b3⟩ := a1 hf
        exact ⟨b1, b2, z, by rw [al_lv hk]; exact List.mem_append_left _ hz, b3⟩
      · obtain ⟨z, hz, b3⟩ := a2 hf ho
        exact ⟨z, by rw [(al_lq x m).1]; exact hz, by rw [(al_lq x m).2]; exact b3⟩
    · obtain rfl : b = ⟨alC 31 x m, roundT m, false, false, false⟩ := by simpa using hb
      rw [hc]
      exact ⟨fun _ => ⟨rfl, rfl, ⟨alAt x m, max m 1, roundT m⟩, by rw [al_lv hk]; simp, rfl, rfl, rfl, rfl, rfl⟩, fun hf => by cases hf⟩
  · refine List.pairwise_append.2 ⟨h.diff, List.pairwise_singleton _ _, fun b hb d hd ho _ e => ?_⟩
    obtain rfl : d = ⟨alC 31 x m, roundT m, false, false, false⟩ := by simpa using hd
    rw [hc] at e
    simp only at e
    have hlt := (hI.1.held.ok _ ((h.each b hb).iv ho)).2.2.2.1
    simp only at hlt
    exact hap b hb ho (by omega)
  · rcases List.mem_append.1 hb with hb | hb
    · exact h.bd b hb
    · obtain rfl : b = ⟨alC 31 x m, roundT m, false, false, false⟩ := by simpa using hb
      rw [hc]
      simp only
      omega
theorem BA.ofE {fr tu : Int} {x : HSt} {l : List Bk} (h : BA x l) (hI : HI fr tu x) {b : Bk} (hb : b ∈ l) (hf : b.freed = false) : ofE x.lv b.c = 0 := by
  obtain ⟨_, _, z, hz, e1, e2, e3, e4, e5⟩ := (h.each b hb).1 hf
  obtain ⟨j, hj, rfl⟩ := List.mem_iff_getElem.1 hz
  unfold Go.Proofs.YtoeiemeffiiidaaDoor.ofE
  rw [e4, e5]
  simp only [Bool.true_eq_false, if_false, not_true]
  cases hi : idxL x.lv b.c.base with
  | none => exact absurd e1 (idxL_none.1 hi _ hz)
  | some i =>
    obtain ⟨hil, hia⟩ := idxL_some hi
    obtain rfl : i = j := hI.uniq hil hj (by rw [hia, e1])
    have hd : x.lv.getD i default = x.lv[i] := by simp [List.getD, List.getElem?_eq_getElem hil]
    simp only
    rw [hd, if_pos e3]
def frB (b : Bk) : Bk := { b with freed := true }
theorem BA.free {fr tu : Int} {x : HSt} {l : List Bk} (h : BA x l) (hI : HI fr tu x) {k : Nat} (hk : k < l.length) (hf : (l[k]).freed = false) : BA (x.free (l[k]).c) (l.take k ++ (frB l[k] :: l.drop (k + 1))) := by
  have hm : l[k] ∈ l := List.getElem_mem hk
  have hE := h.ofE hI hm hf
  obtain ⟨ho, hg, z, hz, e1, e2, e3, e4, e5⟩ := (h.each _ hm).1 hf
  obtain ⟨i, hi, i1, i2, i3, hfr⟩ := free_lv hE
  obtain ⟨j, hj, rfl⟩ := List.mem_iff_getElem.1 hz
  obtain rfl : i = j := hI.uniq hi hj (by rw [i1, e1])
  have hs : l = l.take k ++ l[k] :: l.drop (k + 1) := by rw [← List.drop_eq_getElem_cons hk, List.take_append_drop]
  have hd := h.diff
  rw [hs] at hd
  have key : ∀ b, b ∈ l.take k ∨ b ∈ l.drop (k + 1) → BI (x.free (l[k]).c) b := by
    intro b hb
    have hbl : b ∈ l := by rcases hb with c | c; exact List.mem_of_mem_take c; exact List.mem_of_mem_drop c
    obtain ⟨a1, a2⟩ := h.each b hbl
    rw [hfr]
    refine ⟨fun hf' => ?_, fun hf' ho' => ?_⟩
    · obtain ⟨b1, b2, z', hz', b3, b4⟩ := a1 hf'
      refine ⟨b1, b2, z', ?_, b3, b4⟩
      have hne : ¬ b.c.base = (l[k]).c.base := by
        obtain ⟨p1, p2, p3⟩ := List.pairwise_append.1 hd
        rcases hb with c | c
        · exact p3 b c _ List.mem_cons_self b1 ho
        · exact fun e => (List.pairwise_cons.1 p2).1 b c ho b1 e.symm
      obtain ⟨j, hj', rfl⟩ := List.mem_iff_getElem.1 hz'
      have hij : ¬ i = j := by
        rintro rfl
        exact hne (by rw [← b3, e1])
      show x.lv[j] ∈ x.lv.eraseIdx i
      exact List.mem_eraseIdx_iff_getElem.2 ⟨j, hj', fun e => hij e.symm, rfl⟩
    · obtain ⟨z', hz', b3⟩ := a2 hf' ho'
      exact ⟨z', List.mem_append_left _ hz', b3⟩
  refine ⟨fun b hb => ?_, ?_, fun b hb => ?_⟩
  · rcases List.mem_append.1 hb with c | c
    · exact key b (.inl c)
    · rcases List.mem_cons.1 c with rfl | c
      · refine ⟨fun hf' => (by cases hf'), fun _ _ => ?_⟩
        rw [hfr]
        exact ⟨_, List.mem_append_right _ (List.mem_singleton.2 rfl), e1, e2, fun _ => .inl rfl⟩
      · exact key b (.inr c)
  · obtain ⟨p1, p2, p3⟩ := List.pairwise_append.1 hd
    obtain ⟨p4, p5⟩ := List.pairwise_cons.1 p2
    refine List.pairwise_append.2 ⟨p1, List.pairwise_cons.2 ⟨fun d hd' => p4 d hd', p5⟩, fun b hb d hd' => ?_⟩
    rcases List.mem_cons.1 hd' with rfl | c
    · exact p3 b hb l[k] List.mem_cons_self
    · exact p3 b hb d (List.mem_cons_of_mem _ c)
  · rcases List.mem_append.1 hb with c | c
    · exact h.bd b (List.mem_of_mem_take c)
    · rcases List.mem_cons.1 c with rfl | c
      · exact h.bd l[k] hm
      · exact h.bd b (List.mem_of_mem_drop c)
def updB (bg en : Bool) (b : Bk) : Bk := { b with over := b.over || (en && b.begun), begun := b.begun || (bg && b.freed) }
theorem upd_map {x y : HSt} {l : List Bk} (bg en : Bool) (h : BA x l) (he : ∀ b ∈ l, BI y (updB bg en b)) : BA y (l.map (updB bg en)) := by
  refine ⟨fun b hb => ?_, ?_, fun b hb => ?_⟩
  · obtain ⟨d, hd, rfl⟩ := List.mem_map.1 hb
    exact he d hd
  · refine List.pairwise_map.2 (h.diff.imp fun {a b} hab h1 h2 => hab ?_ ?_)
    · unfold updB at h1
      simp only [Bool.or_eq_false_iff] at h1
      exact h1.1
    · unfold updB at h2
      simp only [Bool.or_eq_false_iff] at h2
      exact h2.1
  · obtain ⟨d, hd, rfl⟩ := List.mem_map.1 hb
    exact h.bd d hd
theorem BA.beg {x : HSt} {l : List Bk} (h : BA x l) (n : Nat) : BA (x.beg n) (l.map (updB (!oddB x.t) false)) := by
  refine upd_map _ _ h fun b hb => ?_
  obtain ⟨a1, a2⟩ := h.each b hb
  unfold HSt.beg updB
  cases ht : oddB x.t with
  | true => simpa using ⟨a1, a2⟩
  | false =>
    rw [if_neg (by simp)]
    simp only [Bool.not_false, Bool.true_and, Bool.false_and, Bool.or_false]
    refine ⟨fun hf => ?_, fun hf ho => ?_⟩
    · obtain ⟨b1, b2, b3⟩ := a1 hf
      exact ⟨b1, by simp only at hf ⊢; rw [b2, hf]; rfl, b3⟩
    · obtain ⟨z, hz, b3, b4, _⟩ := a2 hf ho
      exact ⟨z, hz, b3, b4, fun hb => by simp only at hf hb; rw [hf, Bool.or_true] at hb; cases hb⟩
theorem mem_takeWhile {α : Type} (p : α → Bool) : ∀ (l : List α) (z : α), z ∈ l.takeWhile p → p z = true
  | [], z, h => by cases h
  | a :: l, z, h => by
    rw [List.takeWhile_cons] at h
    split at h
    · rename_i ha
      rcases List.mem_cons.1 h with rfl | h
      · exact ha
      · exact mem_takeWhile p l z h
    · cases h
theorem BA.endd {x : HSt} {l : List Bk} (h : BA x l) (hb0 : 0 ≤ x.t) (hb1 : x.t ≤ 100000) (n : Nat) (fr tu : Int) : BA (x.endd n fr tu) (l.map (updB false (oddB x.t))) := by
  refine upd_map _ _ h fun b hb => ?_
  obtain ⟨a1, a2⟩ := h.each b hb
  unfold HSt.endd updB
  cases ht : oddB x.t with
  | false => simpa using ⟨a1, a2⟩
  | true =>
    rw [if_pos rfl]
    simp only [Bool.true_and, Bool.false_and, Bool.or_false]
    have hodd : x.t % 2 = 1 := by unfold oddB at ht; simpa using ht
    refine ⟨fun hf => ?_, fun hf ho => ?_⟩
    · obtain ⟨b1, b2, b3⟩ := a1 hf
      exact ⟨by simp only; rw [b1, b2]; rfl, b2, b3⟩
    · simp only [Bool.or_eq_false_iff] at ho
      obtain ⟨z, hz, b3, b4, b5⟩ := a2 hf ho.1
      have hzt : z.time = x.t := by
        rcases b5 ho.2 with c | ⟨c1, c2⟩
        · exact c
        · omega
      have hnd : dueB (x.t + 1) z = false := by
        unfold dueB whenT
        rw [clampT_of (by omega) (by omega)]
        exact decide_eq_false (by omega)
      refine ⟨z, ?_, b3, b4, fun _ => .inr ⟨by rw [hzt], by rw [hzt]; exact hodd⟩⟩
      show z ∈ x.lq.drop (x.lq.takeWhile (dueB (x.t + 1))).length
      have hs : x.lq = x.lq.takeWhile (dueB (x.t + 1)) ++ x.lq.drop (x.lq.takeWhile (dueB (x.t + 1))).length := by
        obtain ⟨B, hB⟩ := List.takeWhile_prefix (dueB (x.t + 1)) (l := x.lq)
        conv => lhs; rw [← hB]
        conv => rhs; rw [← hB]
        rw [hB]
        generalize x.lq.takeWhile (dueB (x.t + 1)) = A at hB ⊢
        rw [← hB, List.drop_left]
      rw [hs] at hz
      rcases List.mem_append.1 hz with c | c
      · rw [mem_takeWhile _ _ _ c] at hnd
        cases hnd
      · exact c
theorem rdF_row {α : Type} {f : α → List Value} {w : World} {b : Nat} {z : α} (h : Row w b 0 (f z)) : RdF f w (some ⟨b, 0, none⟩) [z] := fun _ => ⟨b, 0, rfl, h.lt, fun j u hj => h.at_ j u (by rw [rowF_one] at hj; exact hj)⟩
theorem wpStep_gen {P : Program} {ops : Array Oper} {Q : Exit → Act → World → Prop} {r : Ord Oper} {W : World} {a : Act} {w : World} (I : World → Prop) (hI : I w) (h : ∀ w', I w' → wpStep P ops Q r W a w') : wpStep P ops Q r W a w := h w hI
theorem wpList_quietK {P : Program} {ops : Array Oper} {C : World → Prop} {Q' : Exit → Act → World → Prop} {r : List Oper} : ∀ (l : List Oper) (a : Act) (w : World), C w → wpQuiet P ops C (fun a' => ∀ w', C w' → wpList P ops Q' r a' w') l a → wpList P ops Q' (l ++ r) a w
  | [], _, w, hC, h => h w hC
  | o :: l, a, w, hC, h => by
    rw [List.cons_append]
    unfold wpList
    unfold wpQuiet at h
    split
    · rename_i hw
      rw [if_pos hw] at h
      exact .inl (Oper.wp_of_quiet hC (fun a w' hc hk => wpList_quietK l a w' hc hk) h)
    · rename_i hw
      rw [if_neg hw] at h
      exact wpList_quietK l _ w hC h
/-- A region in the order of the text, whose first k operations only read: these by the quiet walk. -/
theorem wp_region_cut {P : Program} {id : Nat} {Q : Exit → Act → World → Prop} {a : Act} {w : World} {l l' l1 r1 : List Oper} (k : Nat) (hl : l = l') (h1 : l'.take k = l1) (h2 : l'.drop k = r1)
    (h : wpQuiet P l'.toArray (fun w' => w' = w) (fun a' => ∀ w', w' = w → wpList P l'.toArray Q r1 a' w') l1 a) : (Code.region id l.toArray false).wp P Q a w := by
  subst hl h1 h2
  have := wpList_quietK (ops := l.toArray) (C := fun w' => w' = w) (r := l.drop k) (l.take k) a w rfl h
  rw [List.take_append_drop] at this
  exact wp_region_lit this
theorem rowF_three {α : Type} (f : α → List Value) (A B : List α) (z : α) : ([] ++ rowF f A ++ rowF f [z] ++ rowF f B) = rowF f (A ++ z :: B) := by simp [rowF]
theorem alE_no {x : HSt} {m : Int} (h : alOk x m = false) : (alE x m == 0) = false := by
  unfold alOk at h
  unfold alE
  cases hr : roundB m with
  | false => rfl
  | true =>
    rw [hr, Bool.true_and] at h
    rw [h]
    rfl
theorem alE_yes {x : HSt} {m : Int} (h : alOk x m = true) : alE x m = 0 := by
  obtain ⟨h1, h2⟩ := alOk_take h
  unfold alE
  rw [if_pos h1, if_pos h2]
theorem roundB_bd {m : Int} (h : roundB m = true) : 0 ≤ m ∧ m ≤ 65536 := by unfold roundB at h; simpa using h
theorem al_under {x : HSt} {fr tu : Int} (hG : Good fr tu x.lf) {m : Int} (hk : alOk x m = true) : underR ⟨true, alAt x m, alAt x m + max m 1, alAt x m, 31, 0⟩ ⟨true, fr, tu, fr, 31, 0⟩ = true := by
  have h1 := al_bd hG hk
  obtain ⟨r1, r2⟩ := roundB_bd (alOk_take hk).1
  obtain ⟨p1, p2, p3, p4, p5⟩ := roundT_bd (n := m) r1 r2
  have h2 := (roundT_bdA (alOk_take hk).1).1
  have hh : hasR 31 31 = true := by decide
  unfold underR
  rw [hh]
  simp only [Bool.and_true, Bool.and_eq_true, decide_eq_true_eq]
  omega
theorem BA.nil (x : HSt) : BA x [] := ⟨(fun _ h => nomatch h), List.Pairwise.nil, (fun _ h => nomatch h)⟩

end Go.Proofs.YtoeiemeffiiidaaDoor
