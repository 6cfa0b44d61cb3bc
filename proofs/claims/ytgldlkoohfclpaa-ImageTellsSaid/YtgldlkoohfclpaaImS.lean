/- Layer 17: what takes. -/
import Derived.Test.YtgldlkoohfclpaaImQ
import Derived.Test.YtgldlkoohfclpaaImJ
import Derived.Test.YtgldlkoohfclpaaImK
namespace Go.Proofs.Ytgldlkoohfclpaa
set_option linter.unusedSimpArgs false
set_option linter.unusedVariables false
open Go.RowKit

theorem number1_ (w : World) (q : Nat) (A : Option Addr) (ca : Nat) (bl : List Int) (k : Nat) (hk : k ≤ 1000000) (h : RdrAt w q A ca bl k) (hb : byteL bl) (hn : bl.length ≤ 1000000) : Calls Try.prog 55 #[.pointer (some ⟨q, 0, none⟩), .int .i64 1] w fun e w' => e = .returned (.int .i64 (numB bl k 1)) ∧ Hid (RdrAt w' q A ca bl (k + 1)) ∧ Hid (Only (fun i => i = q) w w') := number_ w q A ca bl k 1 (by decide) hk h hb hn
theorem number2_ (w : World) (q : Nat) (A : Option Addr) (ca : Nat) (bl : List Int) (k : Nat) (hk : k ≤ 1000000) (h : RdrAt w q A ca bl k) (hb : byteL bl) (hn : bl.length ≤ 1000000) : Calls Try.prog 55 #[.pointer (some ⟨q, 0, none⟩), .int .i64 2] w fun e w' => e = .returned (.int .i64 (numB bl k 2)) ∧ Hid (RdrAt w' q A ca bl (k + 2)) ∧ Hid (Only (fun i => i = q) w w') := number_ w q A ca bl k 2 (by decide) hk h hb hn
/-- A reader's variable, and the reader, below a base. -/
structure RdC (w : World) (base rb q : Nat) (A : Option Addr) (ca : Nat) (bl : List Int) (k : Nat) : Prop where
  bs : base ≤ w.heap.size
  rl : rb < base
  ql : q < base
  ab : ∀ b o, 0 < bl.length → A = some ⟨b, o, none⟩ → b < base ∧ ¬ b = q
  ne : ¬ rb = q
  c : w.cell? ⟨rb, 0, none⟩ = some (.pointer (some ⟨q, 0, none⟩))
  r : RdrAt w q A ca bl k
theorem RdC.only {w w' : World} {base rb q : Nat} {A : Option Addr} {ca : Nat} {bl : List Int} {k : Nat} {S : Nat → Prop} (h : RdC w base rb q A ca bl k) (x : Only S w w') (hS : ∀ i, S i → base ≤ i) : RdC w' base rb q A ca bl k :=
  ⟨Nat.le_trans h.bs x.size, h.rl, h.ql, h.ab, h.ne, (x.cells _ _ (Nat.lt_of_lt_of_le h.rl h.bs) (fun hs => by have := hS _ hs; have := h.rl; omega)).trans h.c, h.r.only x (fun hs => by have := hS _ hs; have := h.ql; omega) (fun b o h0 e _ hs => by have := hS _ hs; have := (h.ab b o h0 e).1; omega)⟩
theorem RdC.ext {w w' : World} {base rb q : Nat} {A : Option Addr} {ca : Nat} {bl : List Int} {k : Nat} (h : RdC w base rb q A ca bl k) (x : Ext w w') : RdC w' base rb q A ca bl k := h.only (Only.ofExt (S := fun _ => False) x) (fun _ h => h.elim)
theorem RdC.next {w w' : World} {base rb q : Nat} {A : Option Addr} {ca : Nat} {bl : List Int} {k : Nat} {k' : Nat} (h : RdC w base rb q A ca bl k) (x : Only (fun i => i = q) w w') (hr : RdrAt w' q A ca bl k') : RdC w' base rb q A ca bl k' :=
  ⟨Nat.le_trans h.bs x.size, h.rl, h.ql, h.ab, h.ne, (x.cells _ _ (Nat.lt_of_lt_of_le h.rl h.bs) h.ne).trans h.c, hr⟩
set_option maxRecDepth 100000 in
set_option maxHeartbeats 4000000 in
theorem tkLnk_ (w : World) (base rb q : Nat) (A : Option Addr) (ca : Nat) (bl : List Int) (k : Nat) (hk : k ≤ 100000) (h : RdC w base rb q A ca bl k) (hb : byteL bl) (hn : bl.length ≤ 1000000) : Calls Try.prog 59 #[.pointer (some ⟨rb, 0, none⟩)] w fun e w' => e = .returned (.agg #[.int .i64 (numB bl k 1), .int .i64 (numB bl (k + 1) 1), .int .i64 (numB bl (k + 2) 2)]) ∧ Hid (RdC w' base rb q A ca bl (k + 4)) ∧ Hid (Only (fun i => i = q) w w') := by
  have HC0 := hid h
  have HN0 := hid (fun W (h : RdrAt W q A ca bl k) => number1_ W q A ca bl k (by omega) h hb hn)
  have HN1 := hid (fun W (h : RdrAt W q A ca bl (k + 1)) => number1_ W q A ca bl (k + 1) (by omega) h hb hn)
  have HN2 := hid (fun W (h : RdrAt W q A ca bl (k + 2)) => number2_ W q A ca bl (k + 2) (by omega) h hb hn)
  obtain ⟨z0, hz0⟩ : ∃ y, numB bl k 1 = y := ⟨_, rfl⟩
  rw [hz0] at HN0 ⊢
  clear hz0
  obtain ⟨z1, hz1⟩ : ∃ y, numB bl (k + 1) 1 = y := ⟨_, rfl⟩
  rw [hz1] at HN1 ⊢
  clear hz1
  obtain ⟨z2, hz2⟩ : ∃ y, numB bl (k + 2) 2 = y := ⟨_, rfl⟩
  rw [hz2] at HN2 ⊢
  clear hz2
  have hrg0 : rb < w.heap.size := Nat.lt_of_lt_of_le h.rl h.bs
  clear h hb hn
  go_enter Try.func59, Try.ntmps59
  go_upto_region 1 with (fail)
  refine wp_gen (fun V => Hid (Ext w V) ∧ Hid (Row V w.heap.size 0 [.int .i64 0, .int .i64 0, .int .i64 0])) ⟨hid (by repeat (first | (with_reducible exact Ext.refl _) | (with_reducible refine Ext.undrew ?_) | (with_reducible refine Ext.grow ?_ _) | (with_reducible refine Ext.drew ?_) | (with_reducible refine Ext.drewN ?_ _) | (with_reducible refine Ext.alloc ?_ _) | (with_reducible assumption) | ((with_reducible refine Ext.setCell ?_ ?_ _); rotate_left; (first | exact Nat.le_refl _ | ((try dsimp only); (try simp only [World.size_alloc, grow_size, World.size_setCell]); omega))))), hid (Row.new w _ _)⟩ ?_
  rintro V ⟨HV, HG⟩
  obtain ⟨g, hg⟩ : ∃ y, w.heap.size = y := ⟨_, rfl⟩
  rw [hg] at HG ⊢
  have hgw : w.heap.size ≤ g := by omega
  have hgq : ¬ g = q := by have := HC0.out.ql; have := HC0.out.bs; omega
  have hrl0 := Nat.lt_of_lt_of_le HC0.out.rl HC0.out.bs
  clear hg
  refine wp_region_only (S := (fun i => i = q ∨ i = g)) (.rd 0 (.rd 2 (.rd 4 (.ac 1 (.ac 3 (.ac 5 (.rd 6 (.ac 7 .done)))))))) (by kernel_rfl) (by kernel_rfl) (fun _ _ d _ _ h => by cases d <;> exact h) (by simp only [Ord.map, nthOp, List.append]; rfl) ?_
  intro d1
  have HVg := hid (HV.out.trans (Ext.grow (Ext.refl V) d1))
  replace HG := hid (HG.out.ext (Ext.grow (Ext.refl V) d1))
  generalize Go.Proofs.Ytgldlkoohfclpaa.grow V d1 = W5 at HVg HG ⊢
  have HOG := hid (Only.ofExt (S := fun i => i = q) HVg.out)
  have HR0 := hid (HC0.out.r.ext HVg.out)
  have hrl := Nat.lt_of_lt_of_le hrl0 HVg.out.size
  have hrc := (HVg.out.cells rb 0 hrl0).trans HC0.out.c
  have HNE := hid HC0.out.ne
  have HS0 := hid (Only.refl (fun i => i = q ∨ i = g) W5)
  have HQ0 := hid (Only.refl (fun i => i = q) W5)
  refine only_read (by rfl) (fun K hK => ?_)
  refine quiet_load1 60 (.tmp 0) rfl (rb) (0) rfl (Value.pointer (some ⟨q, 0, none⟩)) _ (fun w' hw' => (hw'.cells rb 0 hrl (fun e => e.elim HNE.out (fun e => by omega))).trans hrc) Try.underlying60 rfl ?_
  refine hK _ ?_
  clear hK K
  simp only [Act.put, List.setIfInBounds_toArray, List.set_cons_zero, List.set_cons_succ]
  refine only_read (by rfl) (fun K hK => ?_)
  refine quiet_load1 60 (.tmp 0) rfl (rb) (0) rfl (Value.pointer (some ⟨q, 0, none⟩)) _ (fun w' hw' => (hw'.cells rb 0 hrl (fun e => e.elim HNE.out (fun e => by omega))).trans hrc) Try.underlying60 rfl ?_
  refine hK _ ?_
  clear hK K
  simp only [Act.put, List.setIfInBounds_toArray, List.set_cons_zero, List.set_cons_succ]
  refine only_read (by rfl) (fun K hK => ?_)
  refine quiet_load1 60 (.tmp 0) rfl (rb) (0) rfl (Value.pointer (some ⟨q, 0, none⟩)) _ (fun w' hw' => (hw'.cells rb 0 hrl (fun e => e.elim HNE.out (fun e => by omega))).trans hrc) Try.underlying60 rfl ?_
  refine hK _ ?_
  clear hK K
  simp only [Act.put, List.setIfInBounds_toArray, List.set_cons_zero, List.set_cons_succ]
  refine only_act (by rfl) (fun K hK => ?_)
  go_wp2_with (go_at_call 55; refine (HN0.out W5 HR0.out).mono ?_; rintro e V1 ⟨rfl, HR1, HT1⟩)
  have HS1 := hid (Only.trans HS0.out HT1.out (fun i hi => .inl (.inl hi)))
  have HQ1 := hid (Only.trans HQ0.out HT1.out (fun i hi => .inl hi))
  refine ⟨_, Only.refl _ _, HS1.out, ?_⟩
  refine only_act (by rfl) (fun K hK => ?_)
  go_wp2_with (go_at_call 55; refine (HN1.out V1 HR1.out).mono ?_; rintro e V2 ⟨rfl, HR2, HT2⟩)
  have HS2 := hid (Only.trans HS1.out HT2.out (fun i hi => .inl (.inl hi)))
  have HQ2 := hid (Only.trans HQ1.out HT2.out (fun i hi => .inl hi))
  refine ⟨_, Only.refl _ _, HS2.out, ?_⟩
  refine only_act (by rfl) (fun K hK => ?_)
  go_wp2_with (go_at_call 55; refine (HN2.out V2 HR2.out).mono ?_; rintro e V3 ⟨rfl, HR3, HT3⟩)
  have HS3 := hid (Only.trans HS2.out HT3.out (fun i hi => .inl (.inl hi)))
  have HQ3 := hid (Only.trans HQ2.out HT3.out (fun i hi => .inl hi))
  refine ⟨_, Only.refl _ _, HS3.out, ?_⟩
  refine only_read (by rfl) (fun K hK => ?_)
  refine quiet_runD 8 rfl (.agg #[.int .i64 z0, .int .i64 z1, .int .i64 z2]) (fun w => by kernel_rfl) ?_
  refine hK _ ?_
  clear hK K
  simp only [Act.put, List.setIfInBounds_toArray, List.set_cons_zero, List.set_cons_succ]
  have r1 := HG.out.only HQ3.out hgq
  have r1l := r1.lt
  have r1c0 := r1.range 0 _ rfl
  have r1f0 := r1.free 0 (by decide)
  have r1c1 := r1.range 1 _ rfl
  have r1f1 := r1.free 1 (by decide)
  have r1c2 := r1.range 2 _ rfl
  have r1f2 := r1.free 2 (by decide)
  simp only [Nat.zero_add] at r1c1 r1c2 r1f1 r1f2
  clear r1
  refine only_act (by rfl) (fun K hK => ?_)
  go_wp2_with fail
  refine ⟨_, Only.refl _ _, (Only.setCell (S := (fun i => i = q ∨ i = g)) (Only.setCell (S := (fun i => i = q ∨ i = g)) (Only.setCell (S := (fun i => i = q ∨ i = g)) HS3.out (.inl (.inr rfl)) (o := 0) (.int .i64 z0)) (.inl (.inr rfl)) (o := 1) (.int .i64 z1)) (.inl (.inr rfl)) (o := 2) (.int .i64 z2)), ?_⟩
  refine only_nil ?_
  go_wp2_with fail
  refine bodyPost_ret (v := .agg #[.int .i64 z0, .int .i64 z1, .int .i64 z2]) (by simp [results, Try.results59, go_sem, r1l, r1c0, r1c1, r1c2]) rfl ⟨rfl, ?_, ?_⟩
  · exact hid ((HC0.out.next (Only.trans' HOG.out HQ3.out) HR3.out).only (Only.setCell (S := fun i => i = g) (Only.setCell (S := fun i => i = g) (Only.setCell (S := fun i => i = g) (Only.refl (fun i => i = g) V3) (.inl rfl) (o := 0) (.int .i64 z0)) (.inl rfl) (o := 1) (.int .i64 z1)) (.inl rfl) (o := 2) (.int .i64 z2)) (fun i hi => by rw [hi]; exact Nat.le_trans HC0.out.bs hgw))
  · exact hid (Only.trans (Only.trans' HOG.out HQ3.out) (Only.setCell (S := fun i => i = g) (Only.setCell (S := fun i => i = g) (Only.setCell (S := fun i => i = g) (Only.refl (fun i => i = g) V3) (.inl rfl) (o := 0) (.int .i64 z0)) (.inl rfl) (o := 1) (.int .i64 z1)) (.inl rfl) (o := 2) (.int .i64 z2)) (fun i hi => .inr (by rw [hi]; exact hgw)))
set_option maxRecDepth 100000 in
set_option maxHeartbeats 4000000 in
theorem tkShr_ (w : World) (base rb q : Nat) (A : Option Addr) (ca : Nat) (bl : List Int) (k : Nat) (hk : k ≤ 100000) (h : RdC w base rb q A ca bl k) (hb : byteL bl) (hn : bl.length ≤ 1000000) : Calls Try.prog 61 #[.pointer (some ⟨rb, 0, none⟩)] w fun e w' => e = .returned (.agg #[.int .i64 (numB bl k 1), .int .i64 (numB bl (k + 1) 1)]) ∧ Hid (RdC w' base rb q A ca bl (k + 2)) ∧ Hid (Only (fun i => i = q) w w') := by
  have HC0 := hid h
  have HN0 := hid (fun W (h : RdrAt W q A ca bl k) => number1_ W q A ca bl k (by omega) h hb hn)
  have HN1 := hid (fun W (h : RdrAt W q A ca bl (k + 1)) => number1_ W q A ca bl (k + 1) (by omega) h hb hn)
  obtain ⟨z0, hz0⟩ : ∃ y, numB bl k 1 = y := ⟨_, rfl⟩
  rw [hz0] at HN0 ⊢
  clear hz0
  obtain ⟨z1, hz1⟩ : ∃ y, numB bl (k + 1) 1 = y := ⟨_, rfl⟩
  rw [hz1] at HN1 ⊢
  clear hz1
  have hrg0 : rb < w.heap.size := Nat.lt_of_lt_of_le h.rl h.bs
  clear h hb hn
  go_enter Try.func61, Try.ntmps61
  go_upto_region 1 with (fail)
  refine wp_gen (fun V => Hid (Ext w V) ∧ Hid (Row V w.heap.size 0 [.int .i64 0, .int .i64 0])) ⟨hid (by repeat (first | (with_reducible exact Ext.refl _) | (with_reducible refine Ext.undrew ?_) | (with_reducible refine Ext.grow ?_ _) | (with_reducible refine Ext.drew ?_) | (with_reducible refine Ext.drewN ?_ _) | (with_reducible refine Ext.alloc ?_ _) | (with_reducible assumption) | ((with_reducible refine Ext.setCell ?_ ?_ _); rotate_left; (first | exact Nat.le_refl _ | ((try dsimp only); (try simp only [World.size_alloc, grow_size, World.size_setCell]); omega))))), hid (Row.new w _ _)⟩ ?_
  rintro V ⟨HV, HG⟩
  obtain ⟨g, hg⟩ : ∃ y, w.heap.size = y := ⟨_, rfl⟩
  rw [hg] at HG ⊢
  have hgw : w.heap.size ≤ g := by omega
  have hgq : ¬ g = q := by have := HC0.out.ql; have := HC0.out.bs; omega
  have hrl0 := Nat.lt_of_lt_of_le HC0.out.rl HC0.out.bs
  clear hg
  refine wp_region_only (S := (fun i => i = q ∨ i = g)) (.rd 0 (.rd 2 (.ac 1 (.ac 3 (.rd 4 (.ac 5 .done)))))) (by kernel_rfl) (by kernel_rfl) (fun _ _ d _ _ h => by cases d <;> exact h) (by simp only [Ord.map, nthOp, List.append]; rfl) ?_
  intro d1
  have HVg := hid (HV.out.trans (Ext.grow (Ext.refl V) d1))
  replace HG := hid (HG.out.ext (Ext.grow (Ext.refl V) d1))
  generalize Go.Proofs.Ytgldlkoohfclpaa.grow V d1 = W5 at HVg HG ⊢
  have HOG := hid (Only.ofExt (S := fun i => i = q) HVg.out)
  have HR0 := hid (HC0.out.r.ext HVg.out)
  have hrl := Nat.lt_of_lt_of_le hrl0 HVg.out.size
  have hrc := (HVg.out.cells rb 0 hrl0).trans HC0.out.c
  have HNE := hid HC0.out.ne
  have HS0 := hid (Only.refl (fun i => i = q ∨ i = g) W5)
  have HQ0 := hid (Only.refl (fun i => i = q) W5)
  refine only_read (by rfl) (fun K hK => ?_)
  refine quiet_load1 60 (.tmp 0) rfl (rb) (0) rfl (Value.pointer (some ⟨q, 0, none⟩)) _ (fun w' hw' => (hw'.cells rb 0 hrl (fun e => e.elim HNE.out (fun e => by omega))).trans hrc) Try.underlying60 rfl ?_
  refine hK _ ?_
  clear hK K
  simp only [Act.put, List.setIfInBounds_toArray, List.set_cons_zero, List.set_cons_succ]
  refine only_read (by rfl) (fun K hK => ?_)
  refine quiet_load1 60 (.tmp 0) rfl (rb) (0) rfl (Value.pointer (some ⟨q, 0, none⟩)) _ (fun w' hw' => (hw'.cells rb 0 hrl (fun e => e.elim HNE.out (fun e => by omega))).trans hrc) Try.underlying60 rfl ?_
  refine hK _ ?_
  clear hK K
  simp only [Act.put, List.setIfInBounds_toArray, List.set_cons_zero, List.set_cons_succ]
  refine only_act (by rfl) (fun K hK => ?_)
  go_wp2_with (go_at_call 55; refine (HN0.out W5 HR0.out).mono ?_; rintro e V1 ⟨rfl, HR1, HT1⟩)
  have HS1 := hid (Only.trans HS0.out HT1.out (fun i hi => .inl (.inl hi)))
  have HQ1 := hid (Only.trans HQ0.out HT1.out (fun i hi => .inl hi))
  refine ⟨_, Only.refl _ _, HS1.out, ?_⟩
  refine only_act (by rfl) (fun K hK => ?_)
  go_wp2_with (go_at_call 55; refine (HN1.out V1 HR1.out).mono ?_; rintro e V2 ⟨rfl, HR2, HT2⟩)
  have HS2 := hid (Only.trans HS1.out HT2.out (fun i hi => .inl (.inl hi)))
  have HQ2 := hid (Only.trans HQ1.out HT2.out (fun i hi => .inl hi))
  refine ⟨_, Only.refl _ _, HS2.out, ?_⟩
  refine only_read (by rfl) (fun K hK => ?_)
  refine quiet_runD 6 rfl (.agg #[.int .i64 z0, .int .i64 z1]) (fun w => by kernel_rfl) ?_
  refine hK _ ?_
  clear hK K
  simp only [Act.put, List.setIfInBounds_toArray, List.set_cons_zero, List.set_cons_succ]
  have r1 := HG.out.only HQ2.out hgq
  have r1l := r1.lt
  have r1c0 := r1.range 0 _ rfl
  have r1f0 := r1.free 0 (by decide)
  have r1c1 := r1.range 1 _ rfl
  have r1f1 := r1.free 1 (by decide)
  simp only [Nat.zero_add] at r1c1 r1f1
  clear r1
  refine only_act (by rfl) (fun K hK => ?_)
  go_wp2_with fail
  refine ⟨_, Only.refl _ _, (Only.setCell (S := (fun i => i = q ∨ i = g)) (Only.setCell (S := (fun i => i = q ∨ i = g)) HS2.out (.inl (.inr rfl)) (o := 0) (.int .i64 z0)) (.inl (.inr rfl)) (o := 1) (.int .i64 z1)), ?_⟩
  refine only_nil ?_
  go_wp2_with fail
  refine bodyPost_ret (v := .agg #[.int .i64 z0, .int .i64 z1]) (by simp [results, Try.results61, go_sem, r1l, r1c0, r1c1]) rfl ⟨rfl, ?_, ?_⟩
  · exact hid ((HC0.out.next (Only.trans' HOG.out HQ2.out) HR2.out).only (Only.setCell (S := fun i => i = g) (Only.setCell (S := fun i => i = g) (Only.refl (fun i => i = g) V2) (.inl rfl) (o := 0) (.int .i64 z0)) (.inl rfl) (o := 1) (.int .i64 z1)) (fun i hi => by rw [hi]; exact Nat.le_trans HC0.out.bs hgw))
  · exact hid (Only.trans (Only.trans' HOG.out HQ2.out) (Only.setCell (S := fun i => i = g) (Only.setCell (S := fun i => i = g) (Only.refl (fun i => i = g) V2) (.inl rfl) (o := 0) (.int .i64 z0)) (.inl rfl) (o := 1) (.int .i64 z1)) (fun i hi => .inr (by rw [hi]; exact hgw)))
/-- The lengths' variable and its row. -/
structure LnC (w : World) (base lb : Nat) (v : Value) (ls : List Int) : Prop where
  lt : lb < base
  bs : base ≤ w.heap.size
  c : w.cell? ⟨lb, 0, none⟩ = some v
  f : w.frozen? ⟨lb, 0, none⟩ = false
  o : ownsAt w base 3 1 v ls.length (rowF intF ls)
theorem LnC.only {w w' : World} {base lb : Nat} {v : Value} {ls : List Int} {S : Nat → Prop} (h : LnC w base lb v ls) (x : Only S w w') (hl : ¬ S lb) (ho : ∀ g, v.ownBlock = some g → ¬ S g) : LnC w' base lb v ls :=
  ⟨h.lt, Nat.le_trans h.bs x.size, (x.cells _ _ (Nat.lt_of_lt_of_le h.lt h.bs) hl).trans h.c, (x.frozens _ _ (Nat.lt_of_lt_of_le h.lt h.bs) hl).trans h.f, h.o.only x ho⟩
theorem LnC.ext {w w' : World} {base lb : Nat} {v : Value} {ls : List Int} (h : LnC w base lb v ls) (x : Ext w w') : LnC w' base lb v ls := h.only (Only.ofExt (S := fun _ => False) x) id (fun _ _ => id)
structure CmC (w : World) (base rb q lb : Nat) (A : Option Addr) (ca : Nat) (bl : List Int) (k : Nat) (v : Value) (ls : List Int) : Prop where
  rd : RdC w base rb q A ca bl k
  ln : LnC w base lb v ls
  n1 : ¬ lb = q
  n2 : ¬ lb = rb
  n3 : ∀ b o, 0 < bl.length → A = some ⟨b, o, none⟩ → ¬ b = lb
def TnC (q lb : Nat) (v : Value) (i : Nat) : Prop := i = q ∨ i = lb ∨ v.ownBlock = some i
set_option maxRecDepth 100000 in
set_option maxHeartbeats 4000000 in
theorem tkCmp_ (w : World) (base rb q lb : Nat) (A : Option Addr) (ca : Nat) (bl : List Int) (k : Nat) (v : Value) (ls : List Int) (hk : k ≤ 100000) (hls : ls.length ≤ 1000) (h : CmC w base rb q lb A ca bl k v ls) (hb : byteL bl) (hn : bl.length ≤ 1000000) : Calls Try.prog 57 #[.pointer (some ⟨lb, 0, none⟩), .pointer (some ⟨rb, 0, none⟩)] w fun e w' => ∃ v', e = .returned (.agg #[.slice none 0 0, .int .i64 (numB bl (k + 2) 1)]) ∧ Hid (CmC w' base rb q lb A ca bl (k + 3) v' (ls ++ [numB bl k 2])) ∧ Hid (Only (TnC q lb v) w w') ∧ Hid (∀ i, TnC q lb v' i → TnC q lb v i ∨ w.heap.size ≤ i) := by
  have HC0 := hid h
  have HLS := hid hls
  have HN0 := hid (fun W (h : RdrAt W q A ca bl k) => number2_ W q A ca bl k (by omega) h hb hn)
  have HN1 := hid (fun W (h : RdrAt W q A ca bl (k + 2)) => number1_ W q A ca bl (k + 2) (by omega) h hb hn)
  obtain ⟨z0, hz0⟩ : ∃ y, numB bl k 2 = y := ⟨_, rfl⟩
  rw [hz0] at HN0 ⊢
  clear hz0
  obtain ⟨z1, hz1⟩ : ∃ y, numB bl (k + 2) 1 = y := ⟨_, rfl⟩
  rw [hz1] at HN1 ⊢
  clear hz1
  clear h hb hn hls
  go_enter Try.func57, Try.ntmps57
  go_upto_region 1 with (fail)
  refine wp_gen (fun V => Hid (Ext w V) ∧ Hid (Row V w.heap.size 0 [.slice none 0 0, .int .i64 0])) ⟨hid (by repeat (first | (with_reducible exact Ext.refl _) | (with_reducible refine Ext.undrew ?_) | (with_reducible refine Ext.grow ?_ _) | (with_reducible refine Ext.drew ?_) | (with_reducible refine Ext.drewN ?_ _) | (with_reducible refine Ext.alloc ?_ _) | (with_reducible assumption) | ((with_reducible refine Ext.setCell ?_ ?_ _); rotate_left; (first | exact Nat.le_refl _ | ((try dsimp only); (try simp only [World.size_alloc, grow_size, World.size_setCell]); omega))))), hid (Row.new w _ _)⟩ ?_
  rintro V ⟨HV, HG⟩
  obtain ⟨g, hg⟩ : ∃ y, w.heap.size = y := ⟨_, rfl⟩
  have HG0 := hid hg
  rw [hg] at HG ⊢
  have hgw : w.heap.size ≤ g := by omega
  have hgq : ¬ g = q := by have := HC0.out.rd.ql; have := HC0.out.rd.bs; omega
  have HGN := hid (show ¬ TnC q lb v g from fun h => by
    rcases h with h | h | h
    · exact hgq h
    · have := HC0.out.ln.lt; have := HC0.out.ln.bs; omega
    · have := (HC0.out.ln.o.lt g h).2; omega)
  have HRBN := hid (show ¬ TnC q lb v rb from fun h => by
    rcases h with h | h | h
    · exact HC0.out.rd.ne h
    · exact HC0.out.n2 h.symm
    · have := (HC0.out.ln.o.lt rb h).1; have := HC0.out.rd.rl; omega)
  have HN := hid (show (¬ lb = q) ∧ ∀ g, v.ownBlock = some g → ¬ g = q from ⟨HC0.out.n1, fun g h e => by have := (HC0.out.ln.o.lt g h).1; have := HC0.out.rd.ql; omega⟩)
  have hrl0 := Nat.lt_of_lt_of_le HC0.out.rd.rl HC0.out.rd.bs
  clear hg
  refine wp_region_only (S := (TnC q lb v)) (.rd 1 (.br 0 (.ac 2 (.ac 3 (.ac 4 (.ac 5 .done)))) 2 (.br 0 (.ac 3 (.ac 4 (.ac 5 .done))) 3 (.ac 0 (.ac 4 (.ac 5 .done)))))) (by kernel_rfl) (by kernel_rfl) (fun _ _ d _ _ h => by cases d <;> exact h) (by simp only [Ord.map, nthOp, List.append]; rfl) ?_
  intro d1
  have HVg := hid (HV.out.trans (Ext.grow (Ext.refl V) d1))
  replace HG := hid (HG.out.ext (Ext.grow (Ext.refl V) d1))
  generalize Go.Proofs.Ytgldlkoohfclpaa.grow V d1 = W5 at HVg HG ⊢
  have HR0 := hid (HC0.out.rd.r.ext HVg.out)
  have HL0 := hid (HC0.out.ln.ext HVg.out)
  have hrl := Nat.lt_of_lt_of_le hrl0 HVg.out.size
  have hrc := (HVg.out.cells rb 0 hrl0).trans HC0.out.rd.c
  have HS0 := hid (Only.refl (TnC q lb v) W5)
  refine only_read (by rfl) (fun K hK => ?_)
  refine quiet_load1 60 (.tmp 1) rfl (rb) (0) rfl (Value.pointer (some ⟨q, 0, none⟩)) _ (fun w' hw' => (hw'.cells rb 0 hrl (fun e => HRBN.out e)).trans hrc) Try.underlying60 rfl ?_
  refine hK _ ?_
  clear hK K
  simp only [Act.put, List.setIfInBounds_toArray, List.set_cons_zero, List.set_cons_succ]
  refine only_br ?_ ?_
  · refine only_act (by rfl) (fun K hK => ?_)
    have hcx := HL0.out.c
    have hlx := Nat.lt_of_lt_of_le HL0.out.lt HL0.out.bs
    go_wp2_with fail
    refine ⟨_, Only.refl _ _, HS0.out, ?_⟩
    clear hcx hlx
    refine only_act (by rfl) (fun K hK => ?_)
    go_wp2_with (go_at_call 55; refine (HN0.out W5 HR0.out).mono ?_; rintro e V1 ⟨rfl, HR1, HT1⟩)
    have HS1 := hid (Only.trans HS0.out HT1.out (fun i hi => .inl (.inl hi)))
    have HL1 := hid (HL0.out.only HT1.out HN.out.1 HN.out.2)
    refine ⟨_, Only.refl _ _, HS1.out, ?_⟩
    refine only_act (by rfl) (fun K hK => ?_)
    go_wp2_with fail
    refine ⟨_, Only.refl _ _, Only.alloc HS1.out _, ?_⟩
    refine only_gen (fun W => Hid (Ext V1 W) ∧ Hid (Row W V1.heap.size 0 [.int .i64 z0])) ⟨hid ((Ext.refl _).alloc _), hid (Row.new V1 _ _)⟩ ?_
    rintro V2 ⟨hE2, hR2⟩
    have HL2 := hid (HL1.out.ext hE2.out)
    have HRx2 := hid (HR1.out.ext hE2.out)
    have HS2 := hid (HS1.out.transExt hE2.out)
    refine only_act (by rfl) (fun K hK => ?_)
    refine wp_app_row int_len (by decide) int_one Try.underlying43 info_intN (.tmp 3) (.tmp 6) rfl base v ls.length (rowF intF ls) rfl HL2.out.o (some ⟨V1.heap.size, 0, none⟩) 1 1 [z0] rfl rfl (rdF_row0 (f := intF) (z := z0) hR2.out) (by have := HLS.out; unfold maxLen; omega) (by have := HLS.out; omega) HL2.out.bs ?_
    intro v6 w6 hown6 hgrow hat
    obtain ⟨A6, c6, hv6, _, _⟩ := hown6.shape
    subst hv6
    have HT6 : Hid (Only (fun i => v.ownBlock = some i) V2 w6) := hid (grownOnly hgrow fun g hg => hg)
    have HLT := hid HL2.out.o.lt
    have HS6 := hid (Only.trans HS2.out HT6.out (fun i hi => .inl (.inr (.inr hi))))
    have HAT : Hid (∀ g, (Value.slice A6 (ls.length + 1) c6).ownBlock = some g → v.ownBlock = some g ∨ V2.heap.size ≤ g) := hid (fun g e => hat.elim (fun h => .inl (h ▸ e)) (fun ⟨g2, e2, h2⟩ => .inr (by rw [e] at e2; cases e2; exact h2)))
    have HOW6 := hid (show ownsAt w6 base 3 1 (.slice A6 (ls.length + 1) c6) (ls ++ [z0]).length (rowF intF (ls ++ [z0])) by rw [rowF_append, List.length_append]; exact hown6)
    have HR6 := hid (HRx2.out.only HT6.out (fun e => by have := (HLT.out _ e).1; have := HC0.out.rd.ql; omega) (fun b o h0 e _ e2 => by have := (HLT.out _ e2).1; have := (HC0.out.rd.ab b o h0 e).1; omega))
    have hl6 := Nat.lt_of_lt_of_le (Nat.lt_of_lt_of_le HL2.out.lt HL2.out.bs) HT6.out.size
    have hc6 := (HT6.out.cells lb 0 (Nat.lt_of_lt_of_le HL2.out.lt HL2.out.bs) (fun e => by have := (HLT.out _ e).1; have := HL2.out.lt; omega)).trans HL2.out.c
    have hf6 := (HT6.out.frozens lb 0 (Nat.lt_of_lt_of_le HL2.out.lt HL2.out.bs) (fun e => by have := (HLT.out _ e).1; have := HL2.out.lt; omega)).trans HL2.out.f
    refine hK _ _ ⟨_, Only.refl _ _, HS6.out, ?_⟩
    clear hK K hgrow hat hown6
    simp only [Act.put, List.setIfInBounds_toArray, List.set_cons_zero, List.set_cons_succ]
    refine only_act (by rfl) (fun K hK => ?_)
    go_wp2_with fail
    refine ⟨_, Only.refl _ _, Only.setCell HS6.out (.inl (.inr (.inl rfl))) _, ?_⟩
    refine only_nil ?_
    have HS7 := hid (Only.setCell (b := lb) (o := 0) HS6.out (.inl (.inr (.inl rfl))) (.slice A6 (ls.length + 1) c6))
    have HSB := hid (show Only (fun i => i = lb) w6 (w6.setCell ⟨lb, 0, none⟩ (.slice A6 (ls.length + 1) c6)) from Only.setCell (S := fun i => i = lb) (Only.refl _ w6) (.inl rfl) (.slice A6 (ls.length + 1) c6))
    have HL7 := hid (show LnC (w6.setCell ⟨lb, 0, none⟩ (.slice A6 (ls.length + 1) c6)) base lb (.slice A6 (ls.length + 1) c6) (ls ++ [z0]) from ⟨HC0.out.ln.lt, by rw [World.size_setCell]; exact Nat.le_trans (Nat.le_trans HC0.out.ln.bs HVg.out.size) HS6.out.size, by simp [go_sem, hl6, hc6], by simp [go_sem, hf6], HOW6.out.only HSB.out (fun g e e2 => by rcases HAT.out g e with h | h; (· have := (HLT.out g h).1; have := HC0.out.ln.lt; omega); (· have := HL2.out.bs; have := HC0.out.ln.lt; omega))⟩)
    have HR7 := hid (HR6.out.only HSB.out (fun e => HC0.out.n1 e.symm) (fun b o h0 e _ => HC0.out.n3 b o h0 e))
    have HAT7 := hid (show ∀ g, (Value.slice A6 (ls.length + 1) c6).ownBlock = some g → v.ownBlock = some g ∨ W5.heap.size ≤ g from fun g e => (HAT.out g e).imp id (fun h => Nat.le_trans (show W5.heap.size ≤ V2.heap.size from HS2.out.size) h))
    clear HS6 HR6 HAT HOW6 hc6 hf6 HSB
    generalize (w6.setCell ⟨lb, 0, none⟩ (Value.slice A6 (ls.length + 1) c6) : World) = W7 at HS7 HL7 HR7 ⊢
    clear hl6
    have hrb7 := (HS7.out.cells rb 0 hrl HRBN.out).trans hrc
    have hrl7 := Nat.lt_of_lt_of_le hrl HS7.out.size
    have r1 := HG.out.only HS7.out HGN.out
    have r1l := r1.lt
    have r1c0 := r1.range 0 _ rfl
    have r1c1 := r1.range 1 _ rfl
    have r1f0 := r1.free 0 (by decide)
    have r1f1 := r1.free 1 (by decide)
    simp only [Nat.zero_add] at r1c1 r1f1
    clear r1
    go_wp2_with fail
    refine (HN1.out W7 HR7.out).mono ?_
    rintro e W8 ⟨rfl, HR8, HT8⟩
    have r1l := Nat.lt_of_lt_of_le r1l HT8.out.size
    have r1c0 := (HT8.out.cells g 0 (by assumption) hgq).trans r1c0
    have r1c1 := (HT8.out.cells g 1 (by assumption) hgq).trans r1c1
    have r1f0 := (HT8.out.frozens g 0 (by assumption) hgq).trans r1f0
    have r1f1 := (HT8.out.frozens g 1 (by assumption) hgq).trans r1f1
    have HRC8 := hid ((HT8.out.cells rb 0 hrl7 HC0.out.rd.ne).trans hrb7)
    clear hrb7 hrl7
    go_wp2_with fail
    refine bodyPost_ret (v := .agg #[.slice none 0 0, .int .i64 z1]) (by simp [results, Try.results57, go_sem, r1l, r1c0, r1c1]) rfl ?_
    have HFN := hid (Only.setCell (S := fun i => i = g) (Only.setCell (S := fun i => i = g) (Only.refl (fun i => i = g) W8) (.inl rfl) (o := 0) (.slice none 0 0)) (.inl rfl) (o := 1) (.int .i64 z1))
    have HX2 := hid (Only.trans (Only.trans' (Only.ofExt HVg.out) HS7.out) HT8.out (fun i hi => .inl (.inl hi)))
    have HGL := hid HG.out.lt
    have HOV := hid (show ∀ j, (Value.slice A6 (ls.length + 1) c6).ownBlock = some j → ¬ j = g from fun j e e2 => by
      rcases HAT7.out j e with h | h
      · exact HGN.out (e2 ▸ .inr (.inr h))
      · have := HGL.out; omega)
    refine ⟨.slice A6 (ls.length + 1) c6, rfl, hid ⟨?_, ?_, HC0.out.n1, HC0.out.n2, HC0.out.n3⟩, hid (Only.trans HX2.out HFN.out (fun i hi => .inr (hi ▸ hgw))), hid ?_⟩
    · exact RdC.only ⟨Nat.le_trans HC0.out.rd.bs HX2.out.size, HC0.out.rd.rl, HC0.out.rd.ql, HC0.out.rd.ab, HC0.out.rd.ne, HRC8.out, HR8.out⟩ HFN.out (fun i hi => by rw [hi]; exact Nat.le_trans HC0.out.rd.bs hgw)
    · exact (HL7.out.only HT8.out HC0.out.n1 (fun j e e2 => by have := (HL7.out.o.lt j e).1; have := HC0.out.rd.ql; omega)).only HFN.out (fun e => HGN.out (.inr (.inl e.symm))) HOV.out
    · intro i hi
      rcases hi with hi | hi | hi
      · exact .inl (.inl hi)
      · exact .inl (.inr (.inl hi))
      · exact (HAT7.out i hi).imp (fun h => .inr (.inr h)) (fun h => Nat.le_trans HVg.out.size h)
  · refine only_act (by rfl) (fun K hK => ?_)
    go_wp2_with (go_at_call 55; refine (HN0.out W5 HR0.out).mono ?_; rintro e V1 ⟨rfl, HR1, HT1⟩)
    have HS1 := hid (Only.trans HS0.out HT1.out (fun i hi => .inl (.inl hi)))
    have HL1 := hid (HL0.out.only HT1.out HN.out.1 HN.out.2)
    refine ⟨_, Only.refl _ _, HS1.out, ?_⟩
    refine only_br ?_ ?_
    · refine only_act (by rfl) (fun K hK => ?_)
      have hcx := HL1.out.c
      have hlx := Nat.lt_of_lt_of_le HL1.out.lt HL1.out.bs
      go_wp2_with fail
      refine ⟨_, Only.refl _ _, HS1.out, ?_⟩
      clear hcx hlx
      refine only_act (by rfl) (fun K hK => ?_)
      go_wp2_with fail
      refine ⟨_, Only.refl _ _, Only.alloc HS1.out _, ?_⟩
      refine only_gen (fun W => Hid (Ext V1 W) ∧ Hid (Row W V1.heap.size 0 [.int .i64 z0])) ⟨hid ((Ext.refl _).alloc _), hid (Row.new V1 _ _)⟩ ?_
      rintro V2 ⟨hE2, hR2⟩
      have HL2 := hid (HL1.out.ext hE2.out)
      have HRx2 := hid (HR1.out.ext hE2.out)
      have HS2 := hid (HS1.out.transExt hE2.out)
      refine only_act (by rfl) (fun K hK => ?_)
      refine wp_app_row int_len (by decide) int_one Try.underlying43 info_intN (.tmp 3) (.tmp 6) rfl base v ls.length (rowF intF ls) rfl HL2.out.o (some ⟨V1.heap.size, 0, none⟩) 1 1 [z0] rfl rfl (rdF_row0 (f := intF) (z := z0) hR2.out) (by have := HLS.out; unfold maxLen; omega) (by have := HLS.out; omega) HL2.out.bs ?_
      intro v6 w6 hown6 hgrow hat
      obtain ⟨A6, c6, hv6, _, _⟩ := hown6.shape
      subst hv6
      have HT6 : Hid (Only (fun i => v.ownBlock = some i) V2 w6) := hid (grownOnly hgrow fun g hg => hg)
      have HLT := hid HL2.out.o.lt
      have HS6 := hid (Only.trans HS2.out HT6.out (fun i hi => .inl (.inr (.inr hi))))
      have HAT : Hid (∀ g, (Value.slice A6 (ls.length + 1) c6).ownBlock = some g → v.ownBlock = some g ∨ V2.heap.size ≤ g) := hid (fun g e => hat.elim (fun h => .inl (h ▸ e)) (fun ⟨g2, e2, h2⟩ => .inr (by rw [e] at e2; cases e2; exact h2)))
      have HOW6 := hid (show ownsAt w6 base 3 1 (.slice A6 (ls.length + 1) c6) (ls ++ [z0]).length (rowF intF (ls ++ [z0])) by rw [rowF_append, List.length_append]; exact hown6)
      have HR6 := hid (HRx2.out.only HT6.out (fun e => by have := (HLT.out _ e).1; have := HC0.out.rd.ql; omega) (fun b o h0 e _ e2 => by have := (HLT.out _ e2).1; have := (HC0.out.rd.ab b o h0 e).1; omega))
      have hl6 := Nat.lt_of_lt_of_le (Nat.lt_of_lt_of_le HL2.out.lt HL2.out.bs) HT6.out.size
      have hc6 := (HT6.out.cells lb 0 (Nat.lt_of_lt_of_le HL2.out.lt HL2.out.bs) (fun e => by have := (HLT.out _ e).1; have := HL2.out.lt; omega)).trans HL2.out.c
      have hf6 := (HT6.out.frozens lb 0 (Nat.lt_of_lt_of_le HL2.out.lt HL2.out.bs) (fun e => by have := (HLT.out _ e).1; have := HL2.out.lt; omega)).trans HL2.out.f
      refine hK _ _ ⟨_, Only.refl _ _, HS6.out, ?_⟩
      clear hK K hgrow hat hown6
      simp only [Act.put, List.setIfInBounds_toArray, List.set_cons_zero, List.set_cons_succ]
      refine only_act (by rfl) (fun K hK => ?_)
      go_wp2_with fail
      refine ⟨_, Only.refl _ _, Only.setCell HS6.out (.inl (.inr (.inl rfl))) _, ?_⟩
      refine only_nil ?_
      have HS7 := hid (Only.setCell (b := lb) (o := 0) HS6.out (.inl (.inr (.inl rfl))) (.slice A6 (ls.length + 1) c6))
      have HSB := hid (show Only (fun i => i = lb) w6 (w6.setCell ⟨lb, 0, none⟩ (.slice A6 (ls.length + 1) c6)) from Only.setCell (S := fun i => i = lb) (Only.refl _ w6) (.inl rfl) (.slice A6 (ls.length + 1) c6))
      have HL7 := hid (show LnC (w6.setCell ⟨lb, 0, none⟩ (.slice A6 (ls.length + 1) c6)) base lb (.slice A6 (ls.length + 1) c6) (ls ++ [z0]) from ⟨HC0.out.ln.lt, by rw [World.size_setCell]; exact Nat.le_trans (Nat.le_trans HC0.out.ln.bs HVg.out.size) HS6.out.size, by simp [go_sem, hl6, hc6], by simp [go_sem, hf6], HOW6.out.only HSB.out (fun g e e2 => by rcases HAT.out g e with h | h; (· have := (HLT.out g h).1; have := HC0.out.ln.lt; omega); (· have := HL2.out.bs; have := HC0.out.ln.lt; omega))⟩)
      have HR7 := hid (HR6.out.only HSB.out (fun e => HC0.out.n1 e.symm) (fun b o h0 e _ => HC0.out.n3 b o h0 e))
      have HAT7 := hid (show ∀ g, (Value.slice A6 (ls.length + 1) c6).ownBlock = some g → v.ownBlock = some g ∨ W5.heap.size ≤ g from fun g e => (HAT.out g e).imp id (fun h => Nat.le_trans (show W5.heap.size ≤ V2.heap.size from HS2.out.size) h))
      clear HS6 HR6 HAT HOW6 hc6 hf6 HSB
      generalize (w6.setCell ⟨lb, 0, none⟩ (Value.slice A6 (ls.length + 1) c6) : World) = W7 at HS7 HL7 HR7 ⊢
      clear hl6
      have hrb7 := (HS7.out.cells rb 0 hrl HRBN.out).trans hrc
      have hrl7 := Nat.lt_of_lt_of_le hrl HS7.out.size
      have r1 := HG.out.only HS7.out HGN.out
      have r1l := r1.lt
      have r1c0 := r1.range 0 _ rfl
      have r1c1 := r1.range 1 _ rfl
      have r1f0 := r1.free 0 (by decide)
      have r1f1 := r1.free 1 (by decide)
      simp only [Nat.zero_add] at r1c1 r1f1
      clear r1
      go_wp2_with fail
      refine (HN1.out W7 HR7.out).mono ?_
      rintro e W8 ⟨rfl, HR8, HT8⟩
      have r1l := Nat.lt_of_lt_of_le r1l HT8.out.size
      have r1c0 := (HT8.out.cells g 0 (by assumption) hgq).trans r1c0
      have r1c1 := (HT8.out.cells g 1 (by assumption) hgq).trans r1c1
      have r1f0 := (HT8.out.frozens g 0 (by assumption) hgq).trans r1f0
      have r1f1 := (HT8.out.frozens g 1 (by assumption) hgq).trans r1f1
      have HRC8 := hid ((HT8.out.cells rb 0 hrl7 HC0.out.rd.ne).trans hrb7)
      clear hrb7 hrl7
      go_wp2_with fail
      refine bodyPost_ret (v := .agg #[.slice none 0 0, .int .i64 z1]) (by simp [results, Try.results57, go_sem, r1l, r1c0, r1c1]) rfl ?_
      have HFN := hid (Only.setCell (S := fun i => i = g) (Only.setCell (S := fun i => i = g) (Only.refl (fun i => i = g) W8) (.inl rfl) (o := 0) (.slice none 0 0)) (.inl rfl) (o := 1) (.int .i64 z1))
      have HX2 := hid (Only.trans (Only.trans' (Only.ofExt HVg.out) HS7.out) HT8.out (fun i hi => .inl (.inl hi)))
      have HGL := hid HG.out.lt
      have HOV := hid (show ∀ j, (Value.slice A6 (ls.length + 1) c6).ownBlock = some j → ¬ j = g from fun j e e2 => by
        rcases HAT7.out j e with h | h
        · exact HGN.out (e2 ▸ .inr (.inr h))
        · have := HGL.out; omega)
      refine ⟨.slice A6 (ls.length + 1) c6, rfl, hid ⟨?_, ?_, HC0.out.n1, HC0.out.n2, HC0.out.n3⟩, hid (Only.trans HX2.out HFN.out (fun i hi => .inr (hi ▸ hgw))), hid ?_⟩
      · exact RdC.only ⟨Nat.le_trans HC0.out.rd.bs HX2.out.size, HC0.out.rd.rl, HC0.out.rd.ql, HC0.out.rd.ab, HC0.out.rd.ne, HRC8.out, HR8.out⟩ HFN.out (fun i hi => by rw [hi]; exact Nat.le_trans HC0.out.rd.bs hgw)
      · exact (HL7.out.only HT8.out HC0.out.n1 (fun j e e2 => by have := (HL7.out.o.lt j e).1; have := HC0.out.rd.ql; omega)).only HFN.out (fun e => HGN.out (.inr (.inl e.symm))) HOV.out
      · intro i hi
        rcases hi with hi | hi | hi
        · exact .inl (.inl hi)
        · exact .inl (.inr (.inl hi))
        · exact (HAT7.out i hi).imp (fun h => .inr (.inr h)) (fun h => Nat.le_trans HVg.out.size h)
    · refine only_act (by rfl) (fun K hK => ?_)
      go_wp2_with fail
      refine ⟨_, Only.refl _ _, Only.alloc HS1.out _, ?_⟩
      refine only_gen (fun W => Hid (Ext V1 W) ∧ Hid (Row W V1.heap.size 0 [.int .i64 z0])) ⟨hid ((Ext.refl _).alloc _), hid (Row.new V1 _ _)⟩ ?_
      rintro V2 ⟨hE2, hR2⟩
      have HL2 := hid (HL1.out.ext hE2.out)
      have HRx2 := hid (HR1.out.ext hE2.out)
      have HS2 := hid (HS1.out.transExt hE2.out)
      refine only_act (by rfl) (fun K hK => ?_)
      have hcx := HL2.out.c
      have hlx := Nat.lt_of_lt_of_le HL2.out.lt HL2.out.bs
      go_wp2_with fail
      refine ⟨_, Only.refl _ _, HS2.out, ?_⟩
      clear hcx hlx
      refine only_act (by rfl) (fun K hK => ?_)
      refine wp_app_row int_len (by decide) int_one Try.underlying43 info_intN (.tmp 3) (.tmp 6) rfl base v ls.length (rowF intF ls) rfl HL2.out.o (some ⟨V1.heap.size, 0, none⟩) 1 1 [z0] rfl rfl (rdF_row0 (f := intF) (z := z0) hR2.out) (by have := HLS.out; unfold maxLen; omega) (by have := HLS.out; omega) HL2.out.bs ?_
      intro v6 w6 hown6 hgrow hat
      obtain ⟨A6, c6, hv6, _, _⟩ := hown6.shape
      subst hv6
      have HT6 : Hid (Only (fun i => v.ownBlock = some i) V2 w6) := hid (grownOnly hgrow fun g hg => hg)
      have HLT := hid HL2.out.o.lt
      have HS6 := hid (Only.trans HS2.out HT6.out (fun i hi => .inl (.inr (.inr hi))))
      have HAT : Hid (∀ g, (Value.slice A6 (ls.length + 1) c6).ownBlock = some g → v.ownBlock = some g ∨ V2.heap.size ≤ g) := hid (fun g e => hat.elim (fun h => .inl (h ▸ e)) (fun ⟨g2, e2, h2⟩ => .inr (by rw [e] at e2; cases e2; exact h2)))
      have HOW6 := hid (show ownsAt w6 base 3 1 (.slice A6 (ls.length + 1) c6) (ls ++ [z0]).length (rowF intF (ls ++ [z0])) by rw [rowF_append, List.length_append]; exact hown6)
      have HR6 := hid (HRx2.out.only HT6.out (fun e => by have := (HLT.out _ e).1; have := HC0.out.rd.ql; omega) (fun b o h0 e _ e2 => by have := (HLT.out _ e2).1; have := (HC0.out.rd.ab b o h0 e).1; omega))
      have hl6 := Nat.lt_of_lt_of_le (Nat.lt_of_lt_of_le HL2.out.lt HL2.out.bs) HT6.out.size
      have hc6 := (HT6.out.cells lb 0 (Nat.lt_of_lt_of_le HL2.out.lt HL2.out.bs) (fun e => by have := (HLT.out _ e).1; have := HL2.out.lt; omega)).trans HL2.out.c
      have hf6 := (HT6.out.frozens lb 0 (Nat.lt_of_lt_of_le HL2.out.lt HL2.out.bs) (fun e => by have := (HLT.out _ e).1; have := HL2.out.lt; omega)).trans HL2.out.f
      refine hK _ _ ⟨_, Only.refl _ _, HS6.out, ?_⟩
      clear hK K hgrow hat hown6
      simp only [Act.put, List.setIfInBounds_toArray, List.set_cons_zero, List.set_cons_succ]
      refine only_act (by rfl) (fun K hK => ?_)
      go_wp2_with fail
      refine ⟨_, Only.refl _ _, Only.setCell HS6.out (.inl (.inr (.inl rfl))) _, ?_⟩
      refine only_nil ?_
      have HS7 := hid (Only.setCell (b := lb) (o := 0) HS6.out (.inl (.inr (.inl rfl))) (.slice A6 (ls.length + 1) c6))
      have HSB := hid (show Only (fun i => i = lb) w6 (w6.setCell ⟨lb, 0, none⟩ (.slice A6 (ls.length + 1) c6)) from Only.setCell (S := fun i => i = lb) (Only.refl _ w6) (.inl rfl) (.slice A6 (ls.length + 1) c6))
      have HL7 := hid (show LnC (w6.setCell ⟨lb, 0, none⟩ (.slice A6 (ls.length + 1) c6)) base lb (.slice A6 (ls.length + 1) c6) (ls ++ [z0]) from ⟨HC0.out.ln.lt, by rw [World.size_setCell]; exact Nat.le_trans (Nat.le_trans HC0.out.ln.bs HVg.out.size) HS6.out.size, by simp [go_sem, hl6, hc6], by simp [go_sem, hf6], HOW6.out.only HSB.out (fun g e e2 => by rcases HAT.out g e with h | h; (· have := (HLT.out g h).1; have := HC0.out.ln.lt; omega); (· have := HL2.out.bs; have := HC0.out.ln.lt; omega))⟩)
      have HR7 := hid (HR6.out.only HSB.out (fun e => HC0.out.n1 e.symm) (fun b o h0 e _ => HC0.out.n3 b o h0 e))
      have HAT7 := hid (show ∀ g, (Value.slice A6 (ls.length + 1) c6).ownBlock = some g → v.ownBlock = some g ∨ W5.heap.size ≤ g from fun g e => (HAT.out g e).imp id (fun h => Nat.le_trans (show W5.heap.size ≤ V2.heap.size from HS2.out.size) h))
      clear HS6 HR6 HAT HOW6 hc6 hf6 HSB
      generalize (w6.setCell ⟨lb, 0, none⟩ (Value.slice A6 (ls.length + 1) c6) : World) = W7 at HS7 HL7 HR7 ⊢
      clear hl6
      have hrb7 := (HS7.out.cells rb 0 hrl HRBN.out).trans hrc
      have hrl7 := Nat.lt_of_lt_of_le hrl HS7.out.size
      have r1 := HG.out.only HS7.out HGN.out
      have r1l := r1.lt
      have r1c0 := r1.range 0 _ rfl
      have r1c1 := r1.range 1 _ rfl
      have r1f0 := r1.free 0 (by decide)
      have r1f1 := r1.free 1 (by decide)
      simp only [Nat.zero_add] at r1c1 r1f1
      clear r1
      go_wp2_with fail
      refine (HN1.out W7 HR7.out).mono ?_
      rintro e W8 ⟨rfl, HR8, HT8⟩
      have r1l := Nat.lt_of_lt_of_le r1l HT8.out.size
      have r1c0 := (HT8.out.cells g 0 (by assumption) hgq).trans r1c0
      have r1c1 := (HT8.out.cells g 1 (by assumption) hgq).trans r1c1
      have r1f0 := (HT8.out.frozens g 0 (by assumption) hgq).trans r1f0
      have r1f1 := (HT8.out.frozens g 1 (by assumption) hgq).trans r1f1
      have HRC8 := hid ((HT8.out.cells rb 0 hrl7 HC0.out.rd.ne).trans hrb7)
      clear hrb7 hrl7
      go_wp2_with fail
      refine bodyPost_ret (v := .agg #[.slice none 0 0, .int .i64 z1]) (by simp [results, Try.results57, go_sem, r1l, r1c0, r1c1]) rfl ?_
      have HFN := hid (Only.setCell (S := fun i => i = g) (Only.setCell (S := fun i => i = g) (Only.refl (fun i => i = g) W8) (.inl rfl) (o := 0) (.slice none 0 0)) (.inl rfl) (o := 1) (.int .i64 z1))
      have HX2 := hid (Only.trans (Only.trans' (Only.ofExt HVg.out) HS7.out) HT8.out (fun i hi => .inl (.inl hi)))
      have HGL := hid HG.out.lt
      have HOV := hid (show ∀ j, (Value.slice A6 (ls.length + 1) c6).ownBlock = some j → ¬ j = g from fun j e e2 => by
        rcases HAT7.out j e with h | h
        · exact HGN.out (e2 ▸ .inr (.inr h))
        · have := HGL.out; omega)
      refine ⟨.slice A6 (ls.length + 1) c6, rfl, hid ⟨?_, ?_, HC0.out.n1, HC0.out.n2, HC0.out.n3⟩, hid (Only.trans HX2.out HFN.out (fun i hi => .inr (hi ▸ hgw))), hid ?_⟩
      · exact RdC.only ⟨Nat.le_trans HC0.out.rd.bs HX2.out.size, HC0.out.rd.rl, HC0.out.rd.ql, HC0.out.rd.ab, HC0.out.rd.ne, HRC8.out, HR8.out⟩ HFN.out (fun i hi => by rw [hi]; exact Nat.le_trans HC0.out.rd.bs hgw)
      · exact (HL7.out.only HT8.out HC0.out.n1 (fun j e e2 => by have := (HL7.out.o.lt j e).1; have := HC0.out.rd.ql; omega)).only HFN.out (fun e => HGN.out (.inr (.inl e.symm))) HOV.out
      · intro i hi
        rcases hi with hi | hi | hi
        · exact .inl (.inl hi)
        · exact .inl (.inr (.inl hi))
        · exact (HAT7.out i hi).imp (fun h => .inr (.inr h)) (fun h => Nat.le_trans HVg.out.size h)

end Go.Proofs.Ytgldlkoohfclpaa
