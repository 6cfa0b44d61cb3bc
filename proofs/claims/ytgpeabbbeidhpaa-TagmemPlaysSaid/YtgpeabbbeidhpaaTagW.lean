/- Layer 7: the document's memory, fifth part. -/
import Derived.Test.YtgpeabbbeidhpaaTagT
import Derived.Test.YtgpeabbbeidhpaaStepM
import Derived.Test.YtgpeabbbeidhpaaEncG
namespace Go.Proofs.Ytgpeabbbeidhpaa
set_option linter.unusedSimpArgs false
set_option linter.unusedVariables false
open Go.RowKit

theorem clrT_one (T : Nat → Bool) (k : Nat) : clrT T (16 * k) 16 = upd1 T k false := by
  funext y
  unfold clrT upd1
  by_cases e : y = k
  · subst e
    rw [if_pos rfl]
    have h : decide (16 * y < 16 * y + 16 ∧ 16 * y < 16 * y + 16 ∧ 0 < 16) = true := decide_eq_true (by omega)
    rw [h]
    simp
  · rw [if_neg e]
    have h : decide (16 * y < 16 * k + 16 ∧ 16 * k < 16 * y + 16 ∧ 0 < 16) = false := decide_eq_false (by omega)
    rw [h]
    simp
theorem upd1_twice {α : Type} (f : Nat → α) (i : Nat) (u v : α) : upd1 (upd1 f i u) i v = upd1 f i v := by
  funext y
  unfold upd1
  split <;> rfl
theorem upd1_same {α : Type} (f : Nat → α) (i : Nat) (v : α) (h : f i = v) : upd1 f i v = f := by
  funext y
  unfold upd1
  split
  · rename_i e
    rw [e, h]
  · rfl
set_option maxRecDepth 100000 in
set_option maxHeartbeats 4000000 in
theorem rmsc_no (r gb gt gp n nb nt : Nat) (B : Nat → Int) (T' D : Nat → Bool) (w : World) (h : Rm w r gb gt gp n nb nt B T' D) (x : Int) (t : Bool) (b tp at_ pm ty : Int) (hc : ¬ (placeP n x ∧ rightC ⟨t, b, tp, at_, pm, ty⟩ = true)) : Calls Try.prog 13 #[.pointer (some ⟨r, 0, none⟩), .int .i64 x, .agg #[.bool t, .int .i64 b, .int .i64 tp, .int .i64 at_, .int .i64 pm, .int .i64 ty]] w fun e w' => e = .returned (.bool false) ∧ Ext w w' := by
  have HH := hid h
  by_cases hp : placeP n x
  · have HRT : Hid (rightC ⟨t, b, tp, at_, pm, ty⟩ = false) := hid (Bool.eq_false_iff.2 fun hr => hc ⟨hp, hr⟩)
    have HP := hid hp
    clear h hc hp
    go_enter Try.func13, Try.ntmps13
    go_upto_region 1 with (fail)
    refine wp_gen (fun W => Hid (Ext w W) ∧ Hid (CapB W w.heap.size [.bool t, .int .i64 b, .int .i64 tp, .int .i64 at_, .int .i64 pm, .int .i64 ty])) ⟨hid (by repeat (first | (with_reducible exact Ext.refl _) | (with_reducible refine Ext.undrew ?_) | (with_reducible refine Ext.grow ?_ _) | (with_reducible refine Ext.drew ?_) | (with_reducible refine Ext.drewN ?_ _) | (with_reducible refine Ext.alloc ?_ _) | (with_reducible assumption) | ((with_reducible refine Ext.setCell ?_ ?_ _); rotate_left; (first | exact Nat.le_refl _ | ((try dsimp only); (try simp only [World.size_alloc, grow_size, World.size_setCell]); omega))))), hid (CapB.new w _ _)⟩ ?_
    rintro W0 ⟨HX0, HC0⟩
    have HCN : Hid (r < w.heap.size ∧ gb < w.heap.size ∧ gt < w.heap.size ∧ gp < w.heap.size) := hid ⟨HH.out.lr, HH.out.lb, HH.out.lt, HH.out.lp⟩
    obtain ⟨cb, hcb⟩ : ∃ x, w.heap.size = x := ⟨_, rfl⟩
    rw [hcb] at HC0 HCN ⊢
    have HCB := hid hcb
    clear hcb
    have HM0 := hid (HH.out.ext HX0.out)
    have c0 : World.cell? W0 ⟨cb, 0, none⟩ = some (.bool t) := HC0.out.2 0 _ rfl
    have c1 : World.cell? W0 ⟨cb, 1, none⟩ = some (.int .i64 b) := HC0.out.2 1 _ rfl
    have c2 : World.cell? W0 ⟨cb, 2, none⟩ = some (.int .i64 tp) := HC0.out.2 2 _ rfl
    have c3 : World.cell? W0 ⟨cb, 3, none⟩ = some (.int .i64 at_) := HC0.out.2 3 _ rfl
    have c4 : World.cell? W0 ⟨cb, 4, none⟩ = some (.int .i64 pm) := HC0.out.2 4 _ rfl
    have c5 : World.cell? W0 ⟨cb, 5, none⟩ = some (.int .i64 ty) := HC0.out.2 5 _ rfl
    have cl := HC0.out.1
    go_wp2_with (first | (go_at_call 39; refine (rmplace_yes r gb gt gp n nb nt B T' D _ HM0.out x HP.out).mono ?_; rintro e w1 ⟨rfl, rfl⟩) | (go_at_call 33; refine (rcapRight _ _ _ _ _ _ _).mono ?_; rw [HRT.out]; rintro e W1 ⟨rfl, hx1⟩))
    go_ret
    exact ⟨rfl, HX0.out.trans hx1⟩
  · have HP := hid hp
    clear h hc hp
    go_enter Try.func13, Try.ntmps13
    go_upto_region 1 with (fail)
    refine wp_gen (fun W => Hid (Ext w W) ∧ Hid (CapB W w.heap.size [.bool t, .int .i64 b, .int .i64 tp, .int .i64 at_, .int .i64 pm, .int .i64 ty])) ⟨hid (by repeat (first | (with_reducible exact Ext.refl _) | (with_reducible refine Ext.undrew ?_) | (with_reducible refine Ext.grow ?_ _) | (with_reducible refine Ext.drew ?_) | (with_reducible refine Ext.drewN ?_ _) | (with_reducible refine Ext.alloc ?_ _) | (with_reducible assumption) | ((with_reducible refine Ext.setCell ?_ ?_ _); rotate_left; (first | exact Nat.le_refl _ | ((try dsimp only); (try simp only [World.size_alloc, grow_size, World.size_setCell]); omega))))), hid (CapB.new w _ _)⟩ ?_
    rintro W0 ⟨HX0, HC0⟩
    have HCN : Hid (r < w.heap.size ∧ gb < w.heap.size ∧ gt < w.heap.size ∧ gp < w.heap.size) := hid ⟨HH.out.lr, HH.out.lb, HH.out.lt, HH.out.lp⟩
    obtain ⟨cb, hcb⟩ : ∃ x, w.heap.size = x := ⟨_, rfl⟩
    rw [hcb] at HC0 HCN ⊢
    have HCB := hid hcb
    clear hcb
    have HM0 := hid (HH.out.ext HX0.out)
    go_wp2_with (go_at_call 39; refine (rmplace_no r gb gt gp n nb nt B T' D _ HM0.out x HP.out).mono ?_; rintro e w1 ⟨rfl, rfl⟩)
    go_ret
    exact ⟨rfl, HX0.out⟩
set_option maxRecDepth 100000 in
set_option maxHeartbeats 4000000 in
theorem rmsc_yes (r gb gt gp n nb nt : Nat) (B : Nat → Int) (T' D : Nat → Bool) (w : World) (h : Rm w r gb gt gp n nb nt B T' D) (x : Int) (k : Nat) (hk : k < 16 * n) (hx : x = 16 * (k : Int)) (t : Bool) (b tp at_ pm ty : Int) (hr : rightC ⟨t, b, tp, at_, pm, ty⟩ = true) : Calls Try.prog 13 #[.pointer (some ⟨r, 0, none⟩), .int .i64 x, .agg #[.bool t, .int .i64 b, .int .i64 tp, .int .i64 at_, .int .i64 pm, .int .i64 ty]] w fun e w' => e = .returned (.bool true) ∧ Hid (Rm w' r gb gt gp n nb nt (putB B (16 * k) (bytesC ⟨t, b, tp, at_, pm, ty⟩)) (upd1 T' k t) (upd1 D (k / 16) (D (k / 16) || t))) ∧ Hid (Only (Tri gb gt gp) w w') := by
  have HH := hid h
  obtain ⟨a, rfl⟩ : ∃ a : Nat, x = (a : Int) := ⟨x.toNat, by omega⟩
  have HA : Hid (a = 16 * k ∧ k < 16 * n ∧ nb = 256 * n ∧ nt = 16 * n ∧ n ≤ 65536) := hid ⟨by omega, hk, h.eb, h.et, h.bd.2⟩
  have HP : Hid (placeP n (a : Int)) := hid ⟨by omega, by omega, by omega⟩
  have HRT := hid hr
  have HK : Hid (16 * k = a) := hid HA.out.1.symm
  obtain ⟨p, hp⟩ : ∃ p, k / 16 = p := ⟨_, rfl⟩
  have HQ : Hid (p < n ∧ k / 16 = p) := hid ⟨by omega, hp⟩
  rw [HK.out, hp]
  clear h hx hr hk hp
  go_enter Try.func13, Try.ntmps13
  go_upto_region 1 with (fail)
  refine wp_gen (fun W => Hid (Ext w W) ∧ Hid (CapB W w.heap.size [.bool t, .int .i64 b, .int .i64 tp, .int .i64 at_, .int .i64 pm, .int .i64 ty])) ⟨hid (by repeat (first | (with_reducible exact Ext.refl _) | (with_reducible refine Ext.undrew ?_) | (with_reducible refine Ext.grow ?_ _) | (with_reducible refine Ext.drew ?_) | (with_reducible refine Ext.drewN ?_ _) | (with_reducible refine Ext.alloc ?_ _) | (with_reducible assumption) | ((with_reducible refine Ext.setCell ?_ ?_ _); rotate_left; (first | exact Nat.le_refl _ | ((try dsimp only); (try simp only [World.size_alloc, grow_size, World.size_setCell]); omega))))), hid (CapB.new w _ _)⟩ ?_
  rintro W0 ⟨HX0, HC0⟩
  have HCN : Hid (r < w.heap.size ∧ gb < w.heap.size ∧ gt < w.heap.size ∧ gp < w.heap.size) := hid ⟨HH.out.lr, HH.out.lb, HH.out.lt, HH.out.lp⟩
  obtain ⟨cb, hcb⟩ : ∃ x, w.heap.size = x := ⟨_, rfl⟩
  rw [hcb] at HC0 HCN ⊢
  have HCB := hid hcb
  clear hcb
  have HM0 := hid (HH.out.ext HX0.out)
  have c0 : World.cell? W0 ⟨cb, 0, none⟩ = some (.bool t) := HC0.out.2 0 _ rfl
  have c1 : World.cell? W0 ⟨cb, 1, none⟩ = some (.int .i64 b) := HC0.out.2 1 _ rfl
  have c2 : World.cell? W0 ⟨cb, 2, none⟩ = some (.int .i64 tp) := HC0.out.2 2 _ rfl
  have c3 : World.cell? W0 ⟨cb, 3, none⟩ = some (.int .i64 at_) := HC0.out.2 3 _ rfl
  have c4 : World.cell? W0 ⟨cb, 4, none⟩ = some (.int .i64 pm) := HC0.out.2 4 _ rfl
  have c5 : World.cell? W0 ⟨cb, 5, none⟩ = some (.int .i64 ty) := HC0.out.2 5 _ rfl
  have cl := HC0.out.1
  go_upto_region 3 with (first | (go_at_call 39; refine (rmplace_yes r gb gt gp n nb nt B T' D _ HM0.out (a : Int) HP.out).mono ?_; rintro e w1 ⟨rfl, rfl⟩) | (go_at_call 33; refine (rcapRight _ _ _ _ _ _ _).mono ?_; rw [HRT.out]; rintro e W1 ⟨rfl, hx1⟩))
  clear c0 c1 c2 c3 c4 c5 cl
  have HX1 := hid (HX0.out.trans hx1)
  have HC1 := hid (HC0.out.ext hx1)
  clear HM0 HC0 HX0 hx1
  have c0 : World.cell? W1 ⟨cb, 0, none⟩ = some (.bool t) := HC1.out.2 0 _ rfl
  have c1 : World.cell? W1 ⟨cb, 1, none⟩ = some (.int .i64 b) := HC1.out.2 1 _ rfl
  have c2 : World.cell? W1 ⟨cb, 2, none⟩ = some (.int .i64 tp) := HC1.out.2 2 _ rfl
  have c3 : World.cell? W1 ⟨cb, 3, none⟩ = some (.int .i64 at_) := HC1.out.2 3 _ rfl
  have c4 : World.cell? W1 ⟨cb, 4, none⟩ = some (.int .i64 pm) := HC1.out.2 4 _ rfl
  have c5 : World.cell? W1 ⟨cb, 5, none⟩ = some (.int .i64 ty) := HC1.out.2 5 _ rfl
  have cl := HC1.out.1
  go_upto_region 4 with (first | (go_at_call 34; refine (rput_yes t b tp at_ pm ty _ HRT.out).mono ?_; rintro e W2 ⟨qp, cp, rfl, hp1, hp2, hp3, HRp, hx2⟩) | (go_at_call 23; refine (rmstore_yes r gb gt gp n nb nt B T' D _ (HH.out.ext (HX1.out.trans hx2)) a (some ⟨qp, 0, none⟩) 16 cp (bytesC ⟨t, b, tp, at_, pm, ty⟩) (bytesC_length _) HRp (bytesC_byteL _) (by have := HA.out; omega) (fun _ b o e => by cases e; have := HCN.out; have := HX1.out.size; have := HCB.out; unfold Tri; omega)).mono ?_; rintro e W3 ⟨rfl, HM3, HO3⟩))
  clear c0 c1 c2 c3 c4 c5 cl
  have HO3' : Hid (Only (Tri gb gt gp) w W3) := hid (Only.trans' (Only.ofExt (HX1.out.trans hx2)) HO3.out)
  have hncb : ¬ Tri gb gt gp cb := by have := HCN.out; unfold Tri; omega
  have HC3 := hid ((HC1.out.ext hx2).only HO3.out hncb)
  clear HX1 HC1 hx2 HRp HO3 hp1 hp2 hp3
  have HT : Hid (clrT T' a 16 = upd1 T' k false) := hid (by rw [HA.out.1]; exact clrT_one T' k)
  rw [HT.out] at HM3
  have c0 : World.cell? W3 ⟨cb, 0, none⟩ = some (.bool t) := HC3.out.2 0 _ rfl
  have c1 : World.cell? W3 ⟨cb, 1, none⟩ = some (.int .i64 b) := HC3.out.2 1 _ rfl
  have c2 : World.cell? W3 ⟨cb, 2, none⟩ = some (.int .i64 tp) := HC3.out.2 2 _ rfl
  have c3 : World.cell? W3 ⟨cb, 3, none⟩ = some (.int .i64 at_) := HC3.out.2 3 _ rfl
  have c4 : World.cell? W3 ⟨cb, 4, none⟩ = some (.int .i64 pm) := HC3.out.2 4 _ rfl
  have c5 : World.cell? W3 ⟨cb, 5, none⟩ = some (.int .i64 ty) := HC3.out.2 5 _ rfl
  have cl := HC3.out.1
  have hcg : ¬ cb = gt := by have := HCN.out; omega
  have hrg : ¬ r = gt := HM3.out.ne.2.1
  have d1 := HM3.out.c1
  have hlr := HM3.out.lr
  have hlt := HM3.out.lt
  have hkt : k < nt := by have := HA.out; omega
  have hcT := (HM3.out.tg k hkt).1
  have hfT := (HM3.out.tg k hkt).2
  generalize upd1 T' k false k = tv at hcT
  have ha0 : (0 : Int) ≤ (a : Int) := by omega
  have hq : (a : Int) / 16 = (k : Int) := by have := HA.out.1; omega
  have hk0 : (0 : Int) ≤ (k : Int) := by omega
  have hk1 : (k : Int) < (nt : Int) := by omega
  have hntb : nt ≤ 1048576 := by have := HA.out; omega
  have hab : (a : Int) ≤ 16777216 := by have := HA.out; omega
  refine wp_region_turn (q := gt) (.rd 0 (.rd 1 (.rd 2 (.rd 3 (.rd 4 (.rd 5 (.rd 6 (.rd 7 (.rd 8 (.ac 9 .done)))))))))) (by kernel_rfl) (by kernel_rfl) (fun _ _ d _ _ h => by cases d <;> exact h) (by simp only [Ord.map, nthOp, List.append]; rfl) ?_
  intro d0
  repeat (refine turn_read (by rfl) (fun K hK => ?_); go_big_quiet_op; refine hK _ ?_; clear hK K)
  refine turn_act (by rfl) (fun K hK => ?_)
  go_wp2
  refine ⟨_, Only.refl _ _, (by rw [← grow_setCell _ _ _ _ _ hlt]; exact Only.setCell (S := (· = gt)) (Only.refl _ _) (.inl rfl) _), ?_⟩
  refine turn_nil ?_
  clear c0 c1 c2 c3 c4 c5 cl
  clear hcT hfT d1 hlr
  go_upto_region 5 with (fail)
  refine wp_gen (fun W => Hid (Rm W r gb gt gp n nb nt (putB B a (bytesC ⟨t, b, tp, at_, pm, ty⟩)) (upd1 T' k t) D) ∧ Hid (Only (Tri gb gt gp) w W) ∧ Hid (CapB W cb [.bool t, .int .i64 b, .int .i64 tp, .int .i64 at_, .int .i64 pm, .int .i64 ty])) ⟨hid (by rw [← upd1_twice T' k false t]; exact (HM3.out.setT hkt t).ext (Ext.grow (Ext.refl _) d0)), hid ((Only.setCell HO3'.out (.inl (.inr (.inl rfl))) _).transExt (Ext.grow (Ext.refl _) d0)), hid ((HC3.out.only (Only.setCell (S := (· = gt)) (Only.refl _ _) (.inl rfl) _) hcg).ext (Ext.grow (Ext.refl _) d0))⟩ ?_
  rintro W4 ⟨HM4, HO4, HC4⟩
  clear HM3 HO3' HC3 hlt
  cases t with
  | false =>
    have c0 : World.cell? W4 ⟨cb, 0, none⟩ = some (.bool false) := HC4.out.2 0 _ rfl
    have c1 : World.cell? W4 ⟨cb, 1, none⟩ = some (.int .i64 b) := HC4.out.2 1 _ rfl
    have c2 : World.cell? W4 ⟨cb, 2, none⟩ = some (.int .i64 tp) := HC4.out.2 2 _ rfl
    have c3 : World.cell? W4 ⟨cb, 3, none⟩ = some (.int .i64 at_) := HC4.out.2 3 _ rfl
    have c4 : World.cell? W4 ⟨cb, 4, none⟩ = some (.int .i64 pm) := HC4.out.2 4 _ rfl
    have c5 : World.cell? W4 ⟨cb, 5, none⟩ = some (.int .i64 ty) := HC4.out.2 5 _ rfl
    have cl := HC4.out.1
    go_wp2
    go_ret
    exact ⟨rfl, by rw [Bool.or_false, upd1_same D p (D p) rfl]; exact HM4, HO4⟩
  | true =>
    have c0 : World.cell? W4 ⟨cb, 0, none⟩ = some (.bool true) := HC4.out.2 0 _ rfl
    have c1 : World.cell? W4 ⟨cb, 1, none⟩ = some (.int .i64 b) := HC4.out.2 1 _ rfl
    have c2 : World.cell? W4 ⟨cb, 2, none⟩ = some (.int .i64 tp) := HC4.out.2 2 _ rfl
    have c3 : World.cell? W4 ⟨cb, 3, none⟩ = some (.int .i64 at_) := HC4.out.2 3 _ rfl
    have c4 : World.cell? W4 ⟨cb, 4, none⟩ = some (.int .i64 pm) := HC4.out.2 4 _ rfl
    have c5 : World.cell? W4 ⟨cb, 5, none⟩ = some (.int .i64 ty) := HC4.out.2 5 _ rfl
    have cl := HC4.out.1
    have hpn : p < n := HQ.out.1
    have d2 := HM4.out.c2
    have hlr := HM4.out.lr
    have hlp := HM4.out.lp
    have hcD := (HM4.out.dt p hpn).1
    have hfD := (HM4.out.dt p hpn).2
    have HM5 := hid (HM4.out.setD hpn true)
    have HO5 : Hid (Only (Tri gb gt gp) w (W4.setCell ⟨gp, p, none⟩ (.bool true))) := hid (Only.setCell HO4.out (.inl (.inr (.inr rfl))) _)
    have hqp : (a : Int) / 256 = (p : Int) := by have := HA.out.1; have := HQ.out.2; omega
    have hp0 : (0 : Int) ≤ (p : Int) := by omega
    have hp1 : (p : Int) < (n : Int) := by omega
    have hnb : n ≤ 65536 := HA.out.2.2.2.2
    have HB : Hid ((D p || true) = true) := hid (Bool.or_true _)
    clear HM4 HO4 hq
    go_wp2
    go_ret
    exact ⟨rfl, by first | exact HM5 | (rw [HB.out]; exact HM5), HO5⟩
set_option maxRecDepth 100000 in
set_option maxHeartbeats 4000000 in
theorem rmlc_no (r gb gt gp n nb nt : Nat) (B : Nat → Int) (T D : Nat → Bool) (w : World) (h : Rm w r gb gt gp n nb nt B T D) (x : Int) (hc : ¬ placeP n x) : Calls Try.prog 21 #[.pointer (some ⟨r, 0, none⟩), .int .i64 x] w fun e w' => e = .returned (.tuple #[.agg #[.bool false, .int .i64 0, .int .i64 0, .int .i64 0, .int .i64 0, .int .i64 0], .bool false]) ∧ Ext w w' := by
  have HH := hid h
  have HC := hid hc
  have hlr := h.lr
  clear h hc
  go_enter Try.func21, Try.ntmps21
  go_wp2_with (go_at_call 39; refine (rmplace_no r gb gt gp n nb nt B T D _ (HH.out.ext (by repeat (first | (with_reducible exact Ext.refl _) | (with_reducible refine Ext.undrew ?_) | (with_reducible refine Ext.grow ?_ _) | (with_reducible refine Ext.drew ?_) | (with_reducible refine Ext.drewN ?_ _) | (with_reducible refine Ext.alloc ?_ _) | (with_reducible assumption) | ((with_reducible refine Ext.setCell ?_ ?_ _); rotate_left; (first | exact Nat.le_refl _ | ((try dsimp only); (try simp only [World.size_alloc, grow_size, World.size_setCell]); omega)))))) x HC.out).mono ?_; rintro e w1 ⟨rfl, rfl⟩)
  refine bodyPost_ret (v := .tuple #[.agg #[.bool false, .int .i64 0, .int .i64 0, .int .i64 0, .int .i64 0, .int .i64 0], .bool false]) (by simp [results, Try.results21, go_sem]) rfl ?_
  exact ⟨rfl, (by repeat (first | (with_reducible exact Ext.refl _) | (with_reducible refine Ext.undrew ?_) | (with_reducible refine Ext.grow ?_ _) | (with_reducible refine Ext.drew ?_) | (with_reducible refine Ext.drewN ?_ _) | (with_reducible refine Ext.alloc ?_ _) | (with_reducible assumption) | ((with_reducible refine Ext.setCell ?_ ?_ _); rotate_left; (first | exact Nat.le_refl _ | ((try dsimp only); (try simp only [World.size_alloc, grow_size, World.size_setCell]); omega)))))⟩
set_option maxRecDepth 100000 in
set_option maxHeartbeats 4000000 in
theorem trget_ (b o ca : Nat) (L : List Int) (tag : Bool) (w : World) (hL : L.length = 16) (hl : byteL L) (hr : RdB w (some ⟨b, o, none⟩) L) (hca : 16 ≤ ca) (hcm : ca ≤ maxLen) : Calls Try.prog 43 #[.slice (some ⟨b, o, none⟩) 16 ca, .bool tag] w fun e w' => e = .returned (.tuple #[.agg #[.bool (getL L tag).tag, .int .i64 (getL L tag).base, .int .i64 (getL L tag).top, .int .i64 (getL L tag).at_, .int .i64 (getL L tag).perms, .int .i64 (getL L tag).type], .bool true]) ∧ Ext w w' := by
  obtain ⟨x0, x1, x2, x3, x4, x5, x6, x7, x8, x9, x10, x11, x12, x13, x14, x15, rfl⟩ := sixteen hL
  exact rget_yes b o ca x0 x1 x2 x3 x4 x5 x6 x7 x8 x9 x10 x11 x12 x13 x14 x15 tag w hr hca hcm (hl x0 (by simp)).1 (hl x0 (by simp)).2 (hl x1 (by simp)).1 (hl x1 (by simp)).2 (hl x2 (by simp)).1 (hl x2 (by simp)).2 (hl x3 (by simp)).1 (hl x3 (by simp)).2 (hl x4 (by simp)).1 (hl x4 (by simp)).2 (hl x5 (by simp)).1 (hl x5 (by simp)).2 (hl x6 (by simp)).1 (hl x6 (by simp)).2 (hl x7 (by simp)).1 (hl x7 (by simp)).2 (hl x8 (by simp)).1 (hl x8 (by simp)).2 (hl x9 (by simp)).1 (hl x9 (by simp)).2 (hl x10 (by simp)).1 (hl x10 (by simp)).2 (hl x11 (by simp)).1 (hl x11 (by simp)).2 (hl x12 (by simp)).1 (hl x12 (by simp)).2 (hl x13 (by simp)).1 (hl x13 (by simp)).2 (hl x14 (by simp)).1 (hl x14 (by simp)).2 (hl x15 (by simp)).1 (hl x15 (by simp)).2
set_option maxRecDepth 100000 in
set_option maxHeartbeats 4000000 in
theorem rmlc_yes (r gb gt gp n nb nt : Nat) (B : Nat → Int) (T D : Nat → Bool) (w : World) (h : Rm w r gb gt gp n nb nt B T D) (x : Int) (k : Nat) (hk : k < 16 * n) (hx : x = 16 * (k : Int)) : Calls Try.prog 21 #[.pointer (some ⟨r, 0, none⟩), .int .i64 x] w fun e w' => e = .returned (.tuple #[.agg #[.bool (getL (bytesAt B (16 * k) 16) (T k)).tag, .int .i64 (getL (bytesAt B (16 * k) 16) (T k)).base, .int .i64 (getL (bytesAt B (16 * k) 16) (T k)).top, .int .i64 (getL (bytesAt B (16 * k) 16) (T k)).at_, .int .i64 (getL (bytesAt B (16 * k) 16) (T k)).perms, .int .i64 (getL (bytesAt B (16 * k) 16) (T k)).type], .bool true]) ∧ Ext w w' := by
  have HH := hid h
  obtain ⟨a, rfl⟩ : ∃ a : Nat, x = (a : Int) := ⟨x.toNat, by omega⟩
  have HA : Hid (a = 16 * k ∧ k < 16 * n ∧ nb = 256 * n ∧ nt = 16 * n ∧ n ≤ 65536) := hid ⟨by omega, hk, h.eb, h.et, h.bd.2⟩
  have HP : Hid (placeP n (a : Int)) := hid ⟨by omega, by omega, by omega⟩
  have HK : Hid (16 * k = a) := hid HA.out.1.symm
  rw [HK.out]
  have ha0 : (0 : Int) ≤ (a : Int) := by omega
  have hq : (a : Int) / 16 = (k : Int) := by have := HA.out.1; omega
  have hk0 : (0 : Int) ≤ (k : Int) := by omega
  have hkn : k < nt := by have := HA.out; omega
  have hk1 : (k : Int) < (nt : Int) := by omega
  have hntb : nt ≤ 1048576 := by have := HA.out; omega
  have hnbb : nb ≤ 16777216 := by have := HA.out; omega
  have hab : (a : Int) + 16 ≤ (nb : Int) := by have := HA.out; omega
  have hab2 : (a : Int) ≤ (a : Int) + 16 := by omega
  have hab3 : (a : Int) ≤ (nb : Int) := by omega
  have hab4 : (0 : Int) ≤ (a : Int) + 16 := by omega
  have hcj : ¬ nb = a := by omega
  have hcj2 : ¬ nb - a = 0 := by omega
  have d0_ := h.c0
  have d1_ := h.c1
  have hlr := h.lr
  have hlb := h.lb
  have hlt := h.lt
  have htg := (h.tg k hkn).1
  have HR := hid (h.rd a 16 (by omega))
  have HBL := hid (bytesAt_byteL h.rg a 16)
  have HLE : Hid ((bytesAt B a 16).length = 16) := hid (bytesAt_length _ _ _)
  clear h hx hk
  generalize bytesAt B a 16 = L at HR HBL HLE ⊢
  generalize T k = tg at htg ⊢
  go_enter Try.func21, Try.ntmps21
  go_upto_region 3 with (go_at_call 39; refine (rmplace_yes r gb gt gp n nb nt B T D _ (HH.out.ext (by repeat (first | (with_reducible exact Ext.refl _) | (with_reducible refine Ext.undrew ?_) | (with_reducible refine Ext.grow ?_ _) | (with_reducible refine Ext.drew ?_) | (with_reducible refine Ext.drewN ?_ _) | (with_reducible refine Ext.alloc ?_ _) | (with_reducible assumption) | ((with_reducible refine Ext.setCell ?_ ?_ _); rotate_left; (first | exact Nat.le_refl _ | ((try dsimp only); (try simp only [World.size_alloc, grow_size, World.size_setCell]); omega)))))) (a : Int) HP.out).mono ?_; rintro e w1 ⟨rfl, rfl⟩)
  refine wp_region_step (.rd 0 (.rd 1 (.rd 2 (.rd 3 (.rd 4 (.rd 5 (.rd 6 (.rd 7 (.rd 8 (.rd 9 (.rd 10 (.rd 11 (.rd 12 (.rd 13 (.rd 14 (.rd 15 (.br 16 (.rd 17 (.rd 18 (.rd 19 (.ac 20 (.ac 21 (.rd 22 .done)))))) 20 (.ac 16 (.rd 17 (.rd 18 (.rd 19 (.ac 21 (.rd 22 .done))))))))))))))))))))))) (by kernel_rfl) (by kernel_rfl) (fun _ _ d _ _ h => by cases d <;> exact h) (by simp only [Ord.map, nthOp, List.append]; rfl) ?_
  intro d0
  repeat' (first | (refine step_read (by rfl) (fun K hK => ?_); go_big_quiet_op; refine hK _ ?_; clear hK K) | (refine step_act (by rfl) (fun K hK => ?_); go_wp2_with (first | (go_at_call 43; refine (trget_ gb a (nb - a) L tg _ HLE.out HBL.out (HR.out.ext (by repeat (first | (with_reducible exact Ext.refl _) | (with_reducible refine Ext.undrew ?_) | (with_reducible refine Ext.grow ?_ _) | (with_reducible refine Ext.drew ?_) | (with_reducible refine Ext.drewN ?_ _) | (with_reducible refine Ext.alloc ?_ _) | (with_reducible assumption) | ((with_reducible refine Ext.setCell ?_ ?_ _); rotate_left; (first | exact Nat.le_refl _ | ((try dsimp only); (try simp only [World.size_alloc, grow_size, World.size_setCell]); omega)))))) (by omega) (by unfold maxLen; omega)).mono ?_; rintro e w5 ⟨rfl, hx5⟩; obtain ⟨d5, rfl⟩ := hx5.grown; clear hx5)); refine ⟨_, Ext.refl _, (by repeat (first | (with_reducible exact Ext.refl _) | (with_reducible refine Ext.undrew ?_) | (with_reducible refine Ext.grow ?_ _) | (with_reducible refine Ext.drew ?_) | (with_reducible refine Ext.drewN ?_ _) | (with_reducible refine Ext.alloc ?_ _) | (with_reducible assumption) | ((with_reducible refine Ext.setCell ?_ ?_ _); rotate_left; (first | exact Nat.le_refl _ | ((try dsimp only); (try simp only [World.size_alloc, grow_size, World.size_setCell]); omega))))), ?_⟩) | refine step_br ?_ ?_)
  all_goals refine step_nil ?_
  all_goals go_wp2
  all_goals refine bodyPost_ret (v := .tuple #[.agg #[.bool (getL L tg).tag, .int .i64 (getL L tg).base, .int .i64 (getL L tg).top, .int .i64 (getL L tg).at_, .int .i64 (getL L tg).perms, .int .i64 (getL L tg).type], .bool true]) (by simp [results, Try.results21, go_sem]) rfl ?_
  all_goals exact ⟨rfl, (by repeat (first | (with_reducible exact Ext.refl _) | (with_reducible refine Ext.undrew ?_) | (with_reducible refine Ext.grow ?_ _) | (with_reducible refine Ext.drew ?_) | (with_reducible refine Ext.drewN ?_ _) | (with_reducible refine Ext.alloc ?_ _) | (with_reducible assumption) | ((with_reducible refine Ext.setCell ?_ ?_ _); rotate_left; (first | exact Nat.le_refl _ | ((try dsimp only); (try simp only [World.size_alloc, grow_size, World.size_setCell]); omega)))))⟩

end Go.Proofs.Ytgpeabbbeidhpaa
