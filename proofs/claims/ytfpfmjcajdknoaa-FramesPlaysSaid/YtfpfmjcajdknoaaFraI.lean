/- Layer 19: frames: Push. -/
import Derived.Test.YtfpfmjcajdknoaaFraH
import Derived.Test.YtfpfmjcajdknoaaStepO
import Derived.Test.YtfpfmjcajdknoaaStep
namespace Go.Proofs.Ytfpfmjcajdknoaa
set_option linter.unusedSimpArgs false
set_option linter.unusedVariables false
open Go.RowKit

/-- What a Push may turn: the stack's block, and its rows'. -/
def tch (q : Nat) (v : Value) : Nat → Prop := fun i => i = q ∨ v.ownBlock = some i
/-- Frames, and one more. -/
def appL (L : Nat → Cap) (n : Nat) (F : Nat → Cap) : Nat → Cap := fun i => if i < n * 5 then L i else F (i - n * 5)
theorem appL_list (L : Nat → Cap) (n : Nat) (F : Nat → Cap) : capsList (n * 5) L ++ capsList 5 F = capsList ((n + 1) * 5) (appL L n F) := by
  rw [← capsList_row (appL L n F) n, rowCells, capsList_congr (L := appL L n F) (M := L) (n := n * 5) (fun i hi => by simp [appL, hi]), capsList_congr (L := fun i => appL L n F (n * 5 + i)) (M := F) (n := 5) (fun i hi => by rw [appL, if_neg (by omega), Nat.add_sub_cancel_left])]
theorem ownsRow_only {S : Nat → Prop} {w w' : World} {base : Nat} {e : TypeId} {size n : Nat} {v : Value} {xs : List Value} (h : w.ownsRow base e size v n xs) (x : Only S w w') (hn : ∀ g, v.ownBlock = some g → ¬ S g) : w'.ownsRow base e size v n xs := by
  refine ⟨h.1, ?_⟩
  rcases h.2 with h0 | ⟨g, cap, cur, rfl, hb, hg, r⟩
  · exact .inl h0
  · exact .inr ⟨g, cap, cur, rfl, hb, by rw [x.block g (Array.getElem?_eq_some_iff.1 hg).1 (hn g rfl)]; exact hg, r⟩
theorem Stk.apart {w : World} {q base : Nat} {v : Value} {n : Nat} {L : Nat → Cap} (h : Stk w q base v n L) : ∀ g, v.ownBlock = some g → ¬ g = q := h.2.2.2.2.2
theorem grownOnly {S : Nat → Prop} {w w' : World} {row : Option Nat} (h : w.grownBy w' row) (hs : ∀ g, row = some g → S g) : Only S w w' :=
  ⟨h.os, h.tape, h.output, h.size, fun k hk hn => h.block k hk fun e => hn (hs k e.symm)⟩
theorem Row.of_there {w : World} {b n : Nat} {vs : List Value} (hb : b < w.heap.size) (hl : vs.length = n) (h : w.there b 0 n) : Row (w.setCells b 0 vs) b 0 vs :=
  ⟨by rw [size_setCells]; exact hb, fun j v hj => World.rangeAt_setCells_same w b 0 vs (by rw [hl]; exact h) j v hj, fun j hj => by rw [World.frozen?_setCells]; exact (h j (by omega)).2⟩
theorem step_gen {P : Program} {ops : Array Oper} {Q : Exit → Act → World → Prop} {r : Ord Oper} {W : World} {a : Act} {w : World} (I : World → Prop) (hI : I w) (h : ∀ w', I w' → wpStep P ops Q r W a w') : wpStep P ops Q r W a w := h w hI
theorem only_gen {S : Nat → Prop} {P : Program} {ops : Array Oper} {Q : Exit → Act → World → Prop} {r : Ord Oper} {W : World} {a : Act} {w : World} (I : World → Prop) (hI : I w) (h : ∀ w', I w' → wpOnly S P ops Q r W a w') : wpOnly S P ops Q r W a w := h w hI
theorem row_info : (Try.prog.info? 54).map (fun i => (i.zero.map (fun z => z.cells.size), i.size, i.bytes)) = some (some 30, 30, 240) := by kernel_rfl
theorem row_info2 : ∃ i z, Try.prog.info? 54 = some i ∧ i.zero = some z ∧ z.cells.size = 30 ∧ i.size = 30 ∧ i.bytes = 240 := by
  have h := row_info
  cases hq : Try.prog.info? 54 with
  | none => simp [hq] at h
  | some i =>
    cases hz : i.zero with
    | none => simp [hq, hz] at h
    | some z => exact ⟨i, z, rfl, hz, by simpa [hq, hz] using h⟩
set_option maxRecDepth 100000 in
set_option maxHeartbeats 4000000 in
theorem push_full (q base : Nat) (v : Value) (L F : Nat → Cap) (w : World) (h : Stk w q base v 16 L) :
    Calls Try.prog 15 #[.pointer (some ⟨q, 0, none⟩), .agg #[.bool (F 0).tag, .int .i64 (F 0).base, .int .i64 (F 0).top, .int .i64 (F 0).at_, .int .i64 (F 0).perms, .int .i64 (F 0).type, .bool (F 1).tag, .int .i64 (F 1).base, .int .i64 (F 1).top, .int .i64 (F 1).at_, .int .i64 (F 1).perms, .int .i64 (F 1).type, .bool (F 2).tag, .int .i64 (F 2).base, .int .i64 (F 2).top, .int .i64 (F 2).at_, .int .i64 (F 2).perms, .int .i64 (F 2).type, .bool (F 3).tag, .int .i64 (F 3).base, .int .i64 (F 3).top, .int .i64 (F 3).at_, .int .i64 (F 3).perms, .int .i64 (F 3).type, .bool (F 4).tag, .int .i64 (F 4).base, .int .i64 (F 4).top, .int .i64 (F 4).at_, .int .i64 (F 4).perms, .int .i64 (F 4).type]] w fun e w' => e = .returned (.bool false) ∧ Ext w w' := by
  have HS := hid h
  have hq := h.1
  clear h
  go_enter Try.func15, Try.ntmps15
  go_upto_region 1 with (fail)
  refine wp_gen (fun W => Hid (Ext w W) ∧ Hid (Row W w.heap.size 0 [.bool (F 0).tag, .int .i64 (F 0).base, .int .i64 (F 0).top, .int .i64 (F 0).at_, .int .i64 (F 0).perms, .int .i64 (F 0).type, .bool (F 1).tag, .int .i64 (F 1).base, .int .i64 (F 1).top, .int .i64 (F 1).at_, .int .i64 (F 1).perms, .int .i64 (F 1).type, .bool (F 2).tag, .int .i64 (F 2).base, .int .i64 (F 2).top, .int .i64 (F 2).at_, .int .i64 (F 2).perms, .int .i64 (F 2).type, .bool (F 3).tag, .int .i64 (F 3).base, .int .i64 (F 3).top, .int .i64 (F 3).at_, .int .i64 (F 3).perms, .int .i64 (F 3).type, .bool (F 4).tag, .int .i64 (F 4).base, .int .i64 (F 4).top, .int .i64 (F 4).at_, .int .i64 (F 4).perms, .int .i64 (F 4).type])) ⟨hid (by repeat (first | (with_reducible exact Ext.refl _) | (with_reducible refine Ext.undrew ?_) | (with_reducible refine Ext.grow ?_ _) | (with_reducible refine Ext.drew ?_) | (with_reducible refine Ext.drewN ?_ _) | (with_reducible refine Ext.alloc ?_ _) | (with_reducible assumption) | ((with_reducible refine Ext.setCell ?_ ?_ _); rotate_left; (first | exact Nat.le_refl _ | ((try dsimp only); (try simp only [World.size_alloc, grow_size, World.size_setCell]); omega))))), hid (Row.new w _ _)⟩ ?_
  rintro W0 ⟨hE0, hR0⟩
  have H0 : Hid (Rng W0 w.heap.size 0 [.bool (F 0).tag, .int .i64 (F 0).base, .int .i64 (F 0).top, .int .i64 (F 0).at_, .int .i64 (F 0).perms, .int .i64 (F 0).type]) := hid ⟨hR0.out.lt, fun j v hj => hR0.out.range j v (by have hlt := (List.getElem?_eq_some_iff.1 hj).1; match j, hlt with | 0, _ | 1, _ | 2, _ | 3, _ | 4, _ | 5, _ => exact hj)⟩
  have H4 : Hid (Rng W0 w.heap.size 6 (capsList 4 fun i => F (i + 1))) := hid ⟨hR0.out.lt, fun j v hj => by
    have h := hR0.out.range (6 + j) v (by rw [show ([.bool (F 0).tag, .int .i64 (F 0).base, .int .i64 (F 0).top, .int .i64 (F 0).at_, .int .i64 (F 0).perms, .int .i64 (F 0).type, .bool (F 1).tag, .int .i64 (F 1).base, .int .i64 (F 1).top, .int .i64 (F 1).at_, .int .i64 (F 1).perms, .int .i64 (F 1).type, .bool (F 2).tag, .int .i64 (F 2).base, .int .i64 (F 2).top, .int .i64 (F 2).at_, .int .i64 (F 2).perms, .int .i64 (F 2).type, .bool (F 3).tag, .int .i64 (F 3).base, .int .i64 (F 3).top, .int .i64 (F 3).at_, .int .i64 (F 3).perms, .int .i64 (F 3).type, .bool (F 4).tag, .int .i64 (F 4).base, .int .i64 (F 4).top, .int .i64 (F 4).at_, .int .i64 (F 4).perms, .int .i64 (F 4).type] : List Value) = [.bool (F 0).tag, .int .i64 (F 0).base, .int .i64 (F 0).top, .int .i64 (F 0).at_, .int .i64 (F 0).perms, .int .i64 (F 0).type] ++ (capsList 4 fun i => F (i + 1)) from rfl, List.getElem?_append_right (by simp)]; simpa using hj)
    simpa using h⟩
  have hWs : w.heap.size < W0.heap.size := hR0.out.lt
  clear hR0
  refine wp_region_step (.rd 0 (.rd 1 (.rd 2 (.rd 3 (.br 4 (.ac 5 (.ac 6 .done)) 5 (.ac 4 (.ac 6 .done))))))) (by kernel_rfl) (by kernel_rfl) (fun _ _ d _ _ h => by cases d <;> exact h) (by simp only [Ord.map, nthOp, List.append]; rfl) ?_
  intro d0
  repeat' (first | (refine step_read (by rfl) (fun K hK => ?_); (refine quiet_loadC 29 (.tmp 6) rfl w.heap.size 0 rfl [.bool (F 0).tag, .int .i64 (F 0).base, .int .i64 (F 0).top, .int .i64 (F 0).at_, .int .i64 (F 0).perms, .int .i64 (F 0).type] _ (fun w' hw' => (H0.out.ext (Ext.trans (Ext.grow (Ext.refl _) _) (Grown.ext hw'))).range) Try.underlying29 rfl (by kernel_rfl) ?_); refine hK _ ?_; clear hK K; simp only [Act.put, List.setIfInBounds_toArray, List.set_cons_zero, List.set_cons_succ]) | (refine step_read (by rfl) (fun K hK => ?_); go_big_quiet_op; refine hK _ ?_; clear hK K))
  refine step_br ?_ ?_
  · refine step_act (by rfl) (fun K hK => ?_)
    (go_wp2_with (go_at_call 25; refine (rowOf_ F w.heap.size 6 4 _ (H4.out.ext (by repeat (first | (with_reducible exact Ext.refl _) | (with_reducible refine Ext.undrew ?_) | (with_reducible refine Ext.grow ?_ _) | (with_reducible refine Ext.drew ?_) | (with_reducible refine Ext.drewN ?_ _) | (with_reducible refine Ext.alloc ?_ _) | (with_reducible assumption) | ((with_reducible refine Ext.setCell ?_ ?_ _); rotate_left; (first | exact Nat.le_refl _ | ((try dsimp only); (try simp only [World.size_alloc, grow_size, World.size_setCell]); omega))))))).mono ?_; rintro e w1 ⟨rfl, hy⟩))
    refine ⟨_, Ext.refl _, hy, ?_⟩
    refine step_act (by rfl) (fun K hK => ?_)
    go_wp2_with fail
    refine ⟨_, Ext.refl _, (by repeat (first | (with_reducible exact Ext.refl _) | (with_reducible refine Ext.undrew ?_) | (with_reducible refine Ext.grow ?_ _) | (with_reducible refine Ext.drew ?_) | (with_reducible refine Ext.drewN ?_ _) | (with_reducible refine Ext.alloc ?_ _) | (with_reducible assumption) | ((with_reducible refine Ext.setCell ?_ ?_ _); rotate_left; (first | exact Nat.le_refl _ | ((try dsimp only); (try simp only [World.size_alloc, grow_size, World.size_setCell]); omega))))), ?_⟩
    refine step_gen (fun W => Hid (Ext W0 W) ∧ Hid (Ext (Go.Proofs.Ytfpfmjcajdknoaa.grow W0 d0) W) ∧ Hid (w1.heap.size < W.heap.size ∧ W.there w1.heap.size 0 30)) ⟨hid (Ext.trans (by repeat (first | (with_reducible exact Ext.refl _) | (with_reducible refine Ext.undrew ?_) | (with_reducible refine Ext.grow ?_ _) | (with_reducible refine Ext.drew ?_) | (with_reducible refine Ext.drewN ?_ _) | (with_reducible refine Ext.alloc ?_ _) | (with_reducible assumption) | ((with_reducible refine Ext.setCell ?_ ?_ _); rotate_left; (first | exact Nat.le_refl _ | ((try dsimp only); (try simp only [World.size_alloc, grow_size, World.size_setCell]); omega))))) (Ext.alloc hy _)), hid (Ext.alloc hy _), hid (there_newAt rfl (by kernel_rfl))⟩ ?_
    rintro W1 ⟨hE1, hEg, hth⟩
    have hge : W0.heap.size ≤ w1.heap.size := by have := (Ext.trans (Ext.grow (Ext.refl W0) d0) hy).size; omega
    have hlb : (Go.Proofs.Ytfpfmjcajdknoaa.grow W0 d0).heap.size ≤ w1.heap.size := hy.size
    clear hy
    generalize w1.heap.size = b at hth hge hlb ⊢
    refine step_act (by rfl) (fun K hK => ?_)
    refine wp_store_mid 54 (.tmp 5) (.tmp 10) rfl b 0 (capsList 5 F).toArray rfl rfl (by rw [capsArr_size]; exact hth.out.2) (by rw [capsArr_size]; kernel_rfl) (capsArr_one _ _) ?_
    have hO : Only (fun i => i = b) W1 (W1.setCells b 0 (capsList 5 F).toArray.toList) := Only.setCells (S := fun i => i = b) (.inl rfl) _ _ (Only.refl _ _)
    refine hK _ _ ⟨_, Ext.refl _, Ext.only hEg.out hO (by rintro i rfl; exact hlb), ?_⟩
    refine step_gen (fun W => Hid (Ext w W) ∧ Hid (Row W b 0 (capsList 5 F))) ⟨hid (Ext.trans hE0.out (Ext.only hE1.out hO (by rintro i rfl; exact hge))), hid ?hr⟩ ?_
    case hr => exact Row.of_there (by simpa using hth.out.1) (capsList_length 5 F) hth.out.2
    clear hK K hO hth hlb hE1 hEg H0 H4
    rintro W2 ⟨hE2, hR2⟩
    have hwb : w.heap.size < b := by omega
    clear hge hWs hE0
    refine step_nil ?_
    go_wp2_with (go_at_call 17; refine (many_ q base _ _ L _ (Stk.ext HS.out hE2.out)).mono ?_; rintro e w9 ⟨rfl, rfl⟩)
    go_ret
    exact ⟨rfl, hE2.out⟩
  · refine step_act (by rfl) (fun K hK => ?_)
    go_wp2_with fail
    refine ⟨_, Ext.refl _, (by repeat (first | (with_reducible exact Ext.refl _) | (with_reducible refine Ext.undrew ?_) | (with_reducible refine Ext.grow ?_ _) | (with_reducible refine Ext.drew ?_) | (with_reducible refine Ext.drewN ?_ _) | (with_reducible refine Ext.alloc ?_ _) | (with_reducible assumption) | ((with_reducible refine Ext.setCell ?_ ?_ _); rotate_left; (first | exact Nat.le_refl _ | ((try dsimp only); (try simp only [World.size_alloc, grow_size, World.size_setCell]); omega))))), ?_⟩
    refine step_gen (fun W => Hid (Ext W0 W) ∧ Hid (Ext (Go.Proofs.Ytfpfmjcajdknoaa.grow W0 d0) W) ∧ Hid (W0.heap.size + d0.n < W.heap.size ∧ W.there (W0.heap.size + d0.n) 0 30)) ⟨hid (by repeat (first | (with_reducible exact Ext.refl _) | (with_reducible refine Ext.undrew ?_) | (with_reducible refine Ext.grow ?_ _) | (with_reducible refine Ext.drew ?_) | (with_reducible refine Ext.drewN ?_ _) | (with_reducible refine Ext.alloc ?_ _) | (with_reducible assumption) | ((with_reducible refine Ext.setCell ?_ ?_ _); rotate_left; (first | exact Nat.le_refl _ | ((try dsimp only); (try simp only [World.size_alloc, grow_size, World.size_setCell]); omega))))), hid (by repeat (first | (with_reducible exact Ext.refl _) | (with_reducible refine Ext.undrew ?_) | (with_reducible refine Ext.grow ?_ _) | (with_reducible refine Ext.drew ?_) | (with_reducible refine Ext.drewN ?_ _) | (with_reducible refine Ext.alloc ?_ _) | (with_reducible assumption) | ((with_reducible refine Ext.setCell ?_ ?_ _); rotate_left; (first | exact Nat.le_refl _ | ((try dsimp only); (try simp only [World.size_alloc, grow_size, World.size_setCell]); omega))))), hid (there_newAt (by simp [grow_size]) (by kernel_rfl))⟩ ?_
    rintro W1 ⟨hE1, hEg, hth⟩
    have hge : W0.heap.size ≤ W0.heap.size + d0.n := by omega
    have hlb : (Go.Proofs.Ytfpfmjcajdknoaa.grow W0 d0).heap.size ≤ W0.heap.size + d0.n := by simp [grow_size]
    generalize W0.heap.size + d0.n = b at hth hge hlb ⊢
    refine step_act (by rfl) (fun K hK => ?_)
    go_wp2_with (go_at_call 25; refine (rowOf_ F w.heap.size 6 4 _ (H4.out.ext hE1.out)).mono ?_; rintro e w1 ⟨rfl, hy⟩)
    refine ⟨_, Ext.refl _, Ext.trans hEg.out hy, ?_⟩
    refine step_gen (fun W => Hid (Ext W0 W) ∧ Hid (Ext (Go.Proofs.Ytfpfmjcajdknoaa.grow W0 d0) W) ∧ Hid (b < W.heap.size ∧ W.there b 0 30)) ⟨hid (Ext.trans hE1.out hy), hid (Ext.trans hEg.out hy), hid ⟨Nat.lt_of_lt_of_le hth.out.1 hy.size, there_ext hth.out hy⟩⟩ ?_
    clear hy hth hE1 hEg
    rintro W1 ⟨hE1, hEg, hth⟩
    refine step_act (by rfl) (fun K hK => ?_)
    refine wp_store_mid 54 (.tmp 5) (.tmp 10) rfl b 0 (capsList 5 F).toArray rfl rfl (by rw [capsArr_size]; exact hth.out.2) (by rw [capsArr_size]; kernel_rfl) (capsArr_one _ _) ?_
    have hO : Only (fun i => i = b) W1 (W1.setCells b 0 (capsList 5 F).toArray.toList) := Only.setCells (S := fun i => i = b) (.inl rfl) _ _ (Only.refl _ _)
    refine hK _ _ ⟨_, Ext.refl _, Ext.only hEg.out hO (by rintro i rfl; exact hlb), ?_⟩
    refine step_gen (fun W => Hid (Ext w W) ∧ Hid (Row W b 0 (capsList 5 F))) ⟨hid (Ext.trans hE0.out (Ext.only hE1.out hO (by rintro i rfl; exact hge))), hid ?hr⟩ ?_
    case hr => exact Row.of_there (by simpa using hth.out.1) (capsList_length 5 F) hth.out.2
    clear hK K hO hth hlb hE1 hEg H0 H4
    rintro W2 ⟨hE2, hR2⟩
    have hwb : w.heap.size < b := by omega
    clear hge hWs hE0
    refine step_nil ?_
    go_wp2_with (go_at_call 17; refine (many_ q base _ _ L _ (Stk.ext HS.out hE2.out)).mono ?_; rintro e w9 ⟨rfl, rfl⟩)
    go_ret
    exact ⟨rfl, hE2.out⟩

set_option maxRecDepth 100000 in
set_option maxHeartbeats 4000000 in
theorem push_no (q base n : Nat) (v : Value) (L F : Nat → Cap) (w : World) (h : Stk w q base v n L) (hn : n < 16) (hrt : allR 5 F = false) :
    Calls Try.prog 15 #[.pointer (some ⟨q, 0, none⟩), .agg #[.bool (F 0).tag, .int .i64 (F 0).base, .int .i64 (F 0).top, .int .i64 (F 0).at_, .int .i64 (F 0).perms, .int .i64 (F 0).type, .bool (F 1).tag, .int .i64 (F 1).base, .int .i64 (F 1).top, .int .i64 (F 1).at_, .int .i64 (F 1).perms, .int .i64 (F 1).type, .bool (F 2).tag, .int .i64 (F 2).base, .int .i64 (F 2).top, .int .i64 (F 2).at_, .int .i64 (F 2).perms, .int .i64 (F 2).type, .bool (F 3).tag, .int .i64 (F 3).base, .int .i64 (F 3).top, .int .i64 (F 3).at_, .int .i64 (F 3).perms, .int .i64 (F 3).type, .bool (F 4).tag, .int .i64 (F 4).base, .int .i64 (F 4).top, .int .i64 (F 4).at_, .int .i64 (F 4).perms, .int .i64 (F 4).type]] w fun e w' => e = .returned (.bool false) ∧ Ext w w' := by
  have HRT := hid hrt
  have hn6 : ¬ (n : Int) = 16 := by omega
  clear hrt
  have HS := hid h
  have hq := h.1
  clear h
  go_enter Try.func15, Try.ntmps15
  go_upto_region 1 with (fail)
  refine wp_gen (fun W => Hid (Ext w W) ∧ Hid (Row W w.heap.size 0 [.bool (F 0).tag, .int .i64 (F 0).base, .int .i64 (F 0).top, .int .i64 (F 0).at_, .int .i64 (F 0).perms, .int .i64 (F 0).type, .bool (F 1).tag, .int .i64 (F 1).base, .int .i64 (F 1).top, .int .i64 (F 1).at_, .int .i64 (F 1).perms, .int .i64 (F 1).type, .bool (F 2).tag, .int .i64 (F 2).base, .int .i64 (F 2).top, .int .i64 (F 2).at_, .int .i64 (F 2).perms, .int .i64 (F 2).type, .bool (F 3).tag, .int .i64 (F 3).base, .int .i64 (F 3).top, .int .i64 (F 3).at_, .int .i64 (F 3).perms, .int .i64 (F 3).type, .bool (F 4).tag, .int .i64 (F 4).base, .int .i64 (F 4).top, .int .i64 (F 4).at_, .int .i64 (F 4).perms, .int .i64 (F 4).type])) ⟨hid (by repeat (first | (with_reducible exact Ext.refl _) | (with_reducible refine Ext.undrew ?_) | (with_reducible refine Ext.grow ?_ _) | (with_reducible refine Ext.drew ?_) | (with_reducible refine Ext.drewN ?_ _) | (with_reducible refine Ext.alloc ?_ _) | (with_reducible assumption) | ((with_reducible refine Ext.setCell ?_ ?_ _); rotate_left; (first | exact Nat.le_refl _ | ((try dsimp only); (try simp only [World.size_alloc, grow_size, World.size_setCell]); omega))))), hid (Row.new w _ _)⟩ ?_
  rintro W0 ⟨hE0, hR0⟩
  have H0 : Hid (Rng W0 w.heap.size 0 [.bool (F 0).tag, .int .i64 (F 0).base, .int .i64 (F 0).top, .int .i64 (F 0).at_, .int .i64 (F 0).perms, .int .i64 (F 0).type]) := hid ⟨hR0.out.lt, fun j v hj => hR0.out.range j v (by have hlt := (List.getElem?_eq_some_iff.1 hj).1; match j, hlt with | 0, _ | 1, _ | 2, _ | 3, _ | 4, _ | 5, _ => exact hj)⟩
  have H4 : Hid (Rng W0 w.heap.size 6 (capsList 4 fun i => F (i + 1))) := hid ⟨hR0.out.lt, fun j v hj => by
    have h := hR0.out.range (6 + j) v (by rw [show ([.bool (F 0).tag, .int .i64 (F 0).base, .int .i64 (F 0).top, .int .i64 (F 0).at_, .int .i64 (F 0).perms, .int .i64 (F 0).type, .bool (F 1).tag, .int .i64 (F 1).base, .int .i64 (F 1).top, .int .i64 (F 1).at_, .int .i64 (F 1).perms, .int .i64 (F 1).type, .bool (F 2).tag, .int .i64 (F 2).base, .int .i64 (F 2).top, .int .i64 (F 2).at_, .int .i64 (F 2).perms, .int .i64 (F 2).type, .bool (F 3).tag, .int .i64 (F 3).base, .int .i64 (F 3).top, .int .i64 (F 3).at_, .int .i64 (F 3).perms, .int .i64 (F 3).type, .bool (F 4).tag, .int .i64 (F 4).base, .int .i64 (F 4).top, .int .i64 (F 4).at_, .int .i64 (F 4).perms, .int .i64 (F 4).type] : List Value) = [.bool (F 0).tag, .int .i64 (F 0).base, .int .i64 (F 0).top, .int .i64 (F 0).at_, .int .i64 (F 0).perms, .int .i64 (F 0).type] ++ (capsList 4 fun i => F (i + 1)) from rfl, List.getElem?_append_right (by simp)]; simpa using hj)
    simpa using h⟩
  have hWs : w.heap.size < W0.heap.size := hR0.out.lt
  clear hR0
  refine wp_region_step (.rd 0 (.rd 1 (.rd 2 (.rd 3 (.br 4 (.ac 5 (.ac 6 .done)) 5 (.ac 4 (.ac 6 .done))))))) (by kernel_rfl) (by kernel_rfl) (fun _ _ d _ _ h => by cases d <;> exact h) (by simp only [Ord.map, nthOp, List.append]; rfl) ?_
  intro d0
  repeat' (first | (refine step_read (by rfl) (fun K hK => ?_); (refine quiet_loadC 29 (.tmp 6) rfl w.heap.size 0 rfl [.bool (F 0).tag, .int .i64 (F 0).base, .int .i64 (F 0).top, .int .i64 (F 0).at_, .int .i64 (F 0).perms, .int .i64 (F 0).type] _ (fun w' hw' => (H0.out.ext (Ext.trans (Ext.grow (Ext.refl _) _) (Grown.ext hw'))).range) Try.underlying29 rfl (by kernel_rfl) ?_); refine hK _ ?_; clear hK K; simp only [Act.put, List.setIfInBounds_toArray, List.set_cons_zero, List.set_cons_succ]) | (refine step_read (by rfl) (fun K hK => ?_); go_big_quiet_op; refine hK _ ?_; clear hK K))
  refine step_br ?_ ?_
  · refine step_act (by rfl) (fun K hK => ?_)
    (go_wp2_with (go_at_call 25; refine (rowOf_ F w.heap.size 6 4 _ (H4.out.ext (by repeat (first | (with_reducible exact Ext.refl _) | (with_reducible refine Ext.undrew ?_) | (with_reducible refine Ext.grow ?_ _) | (with_reducible refine Ext.drew ?_) | (with_reducible refine Ext.drewN ?_ _) | (with_reducible refine Ext.alloc ?_ _) | (with_reducible assumption) | ((with_reducible refine Ext.setCell ?_ ?_ _); rotate_left; (first | exact Nat.le_refl _ | ((try dsimp only); (try simp only [World.size_alloc, grow_size, World.size_setCell]); omega))))))).mono ?_; rintro e w1 ⟨rfl, hy⟩))
    refine ⟨_, Ext.refl _, hy, ?_⟩
    refine step_act (by rfl) (fun K hK => ?_)
    go_wp2_with fail
    refine ⟨_, Ext.refl _, (by repeat (first | (with_reducible exact Ext.refl _) | (with_reducible refine Ext.undrew ?_) | (with_reducible refine Ext.grow ?_ _) | (with_reducible refine Ext.drew ?_) | (with_reducible refine Ext.drewN ?_ _) | (with_reducible refine Ext.alloc ?_ _) | (with_reducible assumption) | ((with_reducible refine Ext.setCell ?_ ?_ _); rotate_left; (first | exact Nat.le_refl _ | ((try dsimp only); (try simp only [World.size_alloc, grow_size, World.size_setCell]); omega))))), ?_⟩
    refine step_gen (fun W => Hid (Ext W0 W) ∧ Hid (Ext (Go.Proofs.Ytfpfmjcajdknoaa.grow W0 d0) W) ∧ Hid (w1.heap.size < W.heap.size ∧ W.there w1.heap.size 0 30)) ⟨hid (Ext.trans (by repeat (first | (with_reducible exact Ext.refl _) | (with_reducible refine Ext.undrew ?_) | (with_reducible refine Ext.grow ?_ _) | (with_reducible refine Ext.drew ?_) | (with_reducible refine Ext.drewN ?_ _) | (with_reducible refine Ext.alloc ?_ _) | (with_reducible assumption) | ((with_reducible refine Ext.setCell ?_ ?_ _); rotate_left; (first | exact Nat.le_refl _ | ((try dsimp only); (try simp only [World.size_alloc, grow_size, World.size_setCell]); omega))))) (Ext.alloc hy _)), hid (Ext.alloc hy _), hid (there_newAt rfl (by kernel_rfl))⟩ ?_
    rintro W1 ⟨hE1, hEg, hth⟩
    have hge : W0.heap.size ≤ w1.heap.size := by have := (Ext.trans (Ext.grow (Ext.refl W0) d0) hy).size; omega
    have hlb : (Go.Proofs.Ytfpfmjcajdknoaa.grow W0 d0).heap.size ≤ w1.heap.size := hy.size
    clear hy
    generalize w1.heap.size = b at hth hge hlb ⊢
    refine step_act (by rfl) (fun K hK => ?_)
    refine wp_store_mid 54 (.tmp 5) (.tmp 10) rfl b 0 (capsList 5 F).toArray rfl rfl (by rw [capsArr_size]; exact hth.out.2) (by rw [capsArr_size]; kernel_rfl) (capsArr_one _ _) ?_
    have hO : Only (fun i => i = b) W1 (W1.setCells b 0 (capsList 5 F).toArray.toList) := Only.setCells (S := fun i => i = b) (.inl rfl) _ _ (Only.refl _ _)
    refine hK _ _ ⟨_, Ext.refl _, Ext.only hEg.out hO (by rintro i rfl; exact hlb), ?_⟩
    refine step_gen (fun W => Hid (Ext w W) ∧ Hid (Row W b 0 (capsList 5 F))) ⟨hid (Ext.trans hE0.out (Ext.only hE1.out hO (by rintro i rfl; exact hge))), hid ?hr⟩ ?_
    case hr => exact Row.of_there (by simpa using hth.out.1) (capsList_length 5 F) hth.out.2
    clear hK K hO hth hlb hE1 hEg H0 H4
    rintro W2 ⟨hE2, hR2⟩
    have hwb : w.heap.size < b := by omega
    clear hge hWs hE0
    refine step_nil ?_
    go_wp2_with (first | (go_at_call 17; refine (many_ q base _ _ L _ (Stk.ext HS.out hE2.out)).mono ?_; rintro e w9 ⟨rfl, rfl⟩) | (go_at_call 24; refine (allRight_ _ _ _ F _ (Caps.rd (Caps.ofRow hR2.out)) (by omega)).mono ?_; rw [HRT.out]; rintro e w3 ⟨rfl, hy⟩))
    go_ret
    exact ⟨rfl, Ext.trans hE2.out hy⟩
  · refine step_act (by rfl) (fun K hK => ?_)
    go_wp2_with fail
    refine ⟨_, Ext.refl _, (by repeat (first | (with_reducible exact Ext.refl _) | (with_reducible refine Ext.undrew ?_) | (with_reducible refine Ext.grow ?_ _) | (with_reducible refine Ext.drew ?_) | (with_reducible refine Ext.drewN ?_ _) | (with_reducible refine Ext.alloc ?_ _) | (with_reducible assumption) | ((with_reducible refine Ext.setCell ?_ ?_ _); rotate_left; (first | exact Nat.le_refl _ | ((try dsimp only); (try simp only [World.size_alloc, grow_size, World.size_setCell]); omega))))), ?_⟩
    refine step_gen (fun W => Hid (Ext W0 W) ∧ Hid (Ext (Go.Proofs.Ytfpfmjcajdknoaa.grow W0 d0) W) ∧ Hid (W0.heap.size + d0.n < W.heap.size ∧ W.there (W0.heap.size + d0.n) 0 30)) ⟨hid (by repeat (first | (with_reducible exact Ext.refl _) | (with_reducible refine Ext.undrew ?_) | (with_reducible refine Ext.grow ?_ _) | (with_reducible refine Ext.drew ?_) | (with_reducible refine Ext.drewN ?_ _) | (with_reducible refine Ext.alloc ?_ _) | (with_reducible assumption) | ((with_reducible refine Ext.setCell ?_ ?_ _); rotate_left; (first | exact Nat.le_refl _ | ((try dsimp only); (try simp only [World.size_alloc, grow_size, World.size_setCell]); omega))))), hid (by repeat (first | (with_reducible exact Ext.refl _) | (with_reducible refine Ext.undrew ?_) | (with_reducible refine Ext.grow ?_ _) | (with_reducible refine Ext.drew ?_) | (with_reducible refine Ext.drewN ?_ _) | (with_reducible refine Ext.alloc ?_ _) | (with_reducible assumption) | ((with_reducible refine Ext.setCell ?_ ?_ _); rotate_left; (first | exact Nat.le_refl _ | ((try dsimp only); (try simp only [World.size_alloc, grow_size, World.size_setCell]); omega))))), hid (there_newAt (by simp [grow_size]) (by kernel_rfl))⟩ ?_
    rintro W1 ⟨hE1, hEg, hth⟩
    have hge : W0.heap.size ≤ W0.heap.size + d0.n := by omega
    have hlb : (Go.Proofs.Ytfpfmjcajdknoaa.grow W0 d0).heap.size ≤ W0.heap.size + d0.n := by simp [grow_size]
    generalize W0.heap.size + d0.n = b at hth hge hlb ⊢
    refine step_act (by rfl) (fun K hK => ?_)
    go_wp2_with (go_at_call 25; refine (rowOf_ F w.heap.size 6 4 _ (H4.out.ext hE1.out)).mono ?_; rintro e w1 ⟨rfl, hy⟩)
    refine ⟨_, Ext.refl _, Ext.trans hEg.out hy, ?_⟩
    refine step_gen (fun W => Hid (Ext W0 W) ∧ Hid (Ext (Go.Proofs.Ytfpfmjcajdknoaa.grow W0 d0) W) ∧ Hid (b < W.heap.size ∧ W.there b 0 30)) ⟨hid (Ext.trans hE1.out hy), hid (Ext.trans hEg.out hy), hid ⟨Nat.lt_of_lt_of_le hth.out.1 hy.size, there_ext hth.out hy⟩⟩ ?_
    clear hy hth hE1 hEg
    rintro W1 ⟨hE1, hEg, hth⟩
    refine step_act (by rfl) (fun K hK => ?_)
    refine wp_store_mid 54 (.tmp 5) (.tmp 10) rfl b 0 (capsList 5 F).toArray rfl rfl (by rw [capsArr_size]; exact hth.out.2) (by rw [capsArr_size]; kernel_rfl) (capsArr_one _ _) ?_
    have hO : Only (fun i => i = b) W1 (W1.setCells b 0 (capsList 5 F).toArray.toList) := Only.setCells (S := fun i => i = b) (.inl rfl) _ _ (Only.refl _ _)
    refine hK _ _ ⟨_, Ext.refl _, Ext.only hEg.out hO (by rintro i rfl; exact hlb), ?_⟩
    refine step_gen (fun W => Hid (Ext w W) ∧ Hid (Row W b 0 (capsList 5 F))) ⟨hid (Ext.trans hE0.out (Ext.only hE1.out hO (by rintro i rfl; exact hge))), hid ?hr⟩ ?_
    case hr => exact Row.of_there (by simpa using hth.out.1) (capsList_length 5 F) hth.out.2
    clear hK K hO hth hlb hE1 hEg H0 H4
    rintro W2 ⟨hE2, hR2⟩
    have hwb : w.heap.size < b := by omega
    clear hge hWs hE0
    refine step_nil ?_
    go_wp2_with (first | (go_at_call 17; refine (many_ q base _ _ L _ (Stk.ext HS.out hE2.out)).mono ?_; rintro e w9 ⟨rfl, rfl⟩) | (go_at_call 24; refine (allRight_ _ _ _ F _ (Caps.rd (Caps.ofRow hR2.out)) (by omega)).mono ?_; rw [HRT.out]; rintro e w3 ⟨rfl, hy⟩))
    go_ret
    exact ⟨rfl, Ext.trans hE2.out hy⟩

set_option maxRecDepth 100000 in
set_option maxHeartbeats 4000000 in
theorem push_ (q base n : Nat) (v : Value) (L F : Nat → Cap) (w : World) (h : Stk w q base v n L) (hn : n < 16) (hrt : allR 5 F = true) :
    Calls Try.prog 15 #[.pointer (some ⟨q, 0, none⟩), .agg #[.bool (F 0).tag, .int .i64 (F 0).base, .int .i64 (F 0).top, .int .i64 (F 0).at_, .int .i64 (F 0).perms, .int .i64 (F 0).type, .bool (F 1).tag, .int .i64 (F 1).base, .int .i64 (F 1).top, .int .i64 (F 1).at_, .int .i64 (F 1).perms, .int .i64 (F 1).type, .bool (F 2).tag, .int .i64 (F 2).base, .int .i64 (F 2).top, .int .i64 (F 2).at_, .int .i64 (F 2).perms, .int .i64 (F 2).type, .bool (F 3).tag, .int .i64 (F 3).base, .int .i64 (F 3).top, .int .i64 (F 3).at_, .int .i64 (F 3).perms, .int .i64 (F 3).type, .bool (F 4).tag, .int .i64 (F 4).base, .int .i64 (F 4).top, .int .i64 (F 4).at_, .int .i64 (F 4).perms, .int .i64 (F 4).type]] w fun e w' => ∃ v', e = .returned (.bool true) ∧ Stk w' q base v' (n + 1) (appL L n F) ∧ Only (tch q v) w w' ∧ (∀ g, v'.ownBlock = some g → v.ownBlock = some g ∨ w.heap.size ≤ g) := by
  have HRT := hid hrt
  have hn6 : ¬ (n : Int) = 16 := by omega
  clear hrt
  have HS := hid h
  have hq := h.1
  clear h
  go_enter Try.func15, Try.ntmps15
  go_upto_region 1 with (fail)
  refine wp_gen (fun W => Hid (Ext w W) ∧ Hid (Row W w.heap.size 0 [.bool (F 0).tag, .int .i64 (F 0).base, .int .i64 (F 0).top, .int .i64 (F 0).at_, .int .i64 (F 0).perms, .int .i64 (F 0).type, .bool (F 1).tag, .int .i64 (F 1).base, .int .i64 (F 1).top, .int .i64 (F 1).at_, .int .i64 (F 1).perms, .int .i64 (F 1).type, .bool (F 2).tag, .int .i64 (F 2).base, .int .i64 (F 2).top, .int .i64 (F 2).at_, .int .i64 (F 2).perms, .int .i64 (F 2).type, .bool (F 3).tag, .int .i64 (F 3).base, .int .i64 (F 3).top, .int .i64 (F 3).at_, .int .i64 (F 3).perms, .int .i64 (F 3).type, .bool (F 4).tag, .int .i64 (F 4).base, .int .i64 (F 4).top, .int .i64 (F 4).at_, .int .i64 (F 4).perms, .int .i64 (F 4).type])) ⟨hid (by repeat (first | (with_reducible exact Ext.refl _) | (with_reducible refine Ext.undrew ?_) | (with_reducible refine Ext.grow ?_ _) | (with_reducible refine Ext.drew ?_) | (with_reducible refine Ext.drewN ?_ _) | (with_reducible refine Ext.alloc ?_ _) | (with_reducible assumption) | ((with_reducible refine Ext.setCell ?_ ?_ _); rotate_left; (first | exact Nat.le_refl _ | ((try dsimp only); (try simp only [World.size_alloc, grow_size, World.size_setCell]); omega))))), hid (Row.new w _ _)⟩ ?_
  rintro W0 ⟨hE0, hR0⟩
  have H0 : Hid (Rng W0 w.heap.size 0 [.bool (F 0).tag, .int .i64 (F 0).base, .int .i64 (F 0).top, .int .i64 (F 0).at_, .int .i64 (F 0).perms, .int .i64 (F 0).type]) := hid ⟨hR0.out.lt, fun j v hj => hR0.out.range j v (by have hlt := (List.getElem?_eq_some_iff.1 hj).1; match j, hlt with | 0, _ | 1, _ | 2, _ | 3, _ | 4, _ | 5, _ => exact hj)⟩
  have H4 : Hid (Rng W0 w.heap.size 6 (capsList 4 fun i => F (i + 1))) := hid ⟨hR0.out.lt, fun j v hj => by
    have h := hR0.out.range (6 + j) v (by rw [show ([.bool (F 0).tag, .int .i64 (F 0).base, .int .i64 (F 0).top, .int .i64 (F 0).at_, .int .i64 (F 0).perms, .int .i64 (F 0).type, .bool (F 1).tag, .int .i64 (F 1).base, .int .i64 (F 1).top, .int .i64 (F 1).at_, .int .i64 (F 1).perms, .int .i64 (F 1).type, .bool (F 2).tag, .int .i64 (F 2).base, .int .i64 (F 2).top, .int .i64 (F 2).at_, .int .i64 (F 2).perms, .int .i64 (F 2).type, .bool (F 3).tag, .int .i64 (F 3).base, .int .i64 (F 3).top, .int .i64 (F 3).at_, .int .i64 (F 3).perms, .int .i64 (F 3).type, .bool (F 4).tag, .int .i64 (F 4).base, .int .i64 (F 4).top, .int .i64 (F 4).at_, .int .i64 (F 4).perms, .int .i64 (F 4).type] : List Value) = [.bool (F 0).tag, .int .i64 (F 0).base, .int .i64 (F 0).top, .int .i64 (F 0).at_, .int .i64 (F 0).perms, .int .i64 (F 0).type] ++ (capsList 4 fun i => F (i + 1)) from rfl, List.getElem?_append_right (by simp)]; simpa using hj)
    simpa using h⟩
  have hWs : w.heap.size < W0.heap.size := hR0.out.lt
  clear hR0
  refine wp_region_step (.rd 0 (.rd 1 (.rd 2 (.rd 3 (.br 4 (.ac 5 (.ac 6 .done)) 5 (.ac 4 (.ac 6 .done))))))) (by kernel_rfl) (by kernel_rfl) (fun _ _ d _ _ h => by cases d <;> exact h) (by simp only [Ord.map, nthOp, List.append]; rfl) ?_
  intro d0
  repeat' (first | (refine step_read (by rfl) (fun K hK => ?_); (refine quiet_loadC 29 (.tmp 6) rfl w.heap.size 0 rfl [.bool (F 0).tag, .int .i64 (F 0).base, .int .i64 (F 0).top, .int .i64 (F 0).at_, .int .i64 (F 0).perms, .int .i64 (F 0).type] _ (fun w' hw' => (H0.out.ext (Ext.trans (Ext.grow (Ext.refl _) _) (Grown.ext hw'))).range) Try.underlying29 rfl (by kernel_rfl) ?_); refine hK _ ?_; clear hK K; simp only [Act.put, List.setIfInBounds_toArray, List.set_cons_zero, List.set_cons_succ]) | (refine step_read (by rfl) (fun K hK => ?_); go_big_quiet_op; refine hK _ ?_; clear hK K))
  refine step_br ?_ ?_
  · refine step_act (by rfl) (fun K hK => ?_)
    (go_wp2_with (go_at_call 25; refine (rowOf_ F w.heap.size 6 4 _ (H4.out.ext (by repeat (first | (with_reducible exact Ext.refl _) | (with_reducible refine Ext.undrew ?_) | (with_reducible refine Ext.grow ?_ _) | (with_reducible refine Ext.drew ?_) | (with_reducible refine Ext.drewN ?_ _) | (with_reducible refine Ext.alloc ?_ _) | (with_reducible assumption) | ((with_reducible refine Ext.setCell ?_ ?_ _); rotate_left; (first | exact Nat.le_refl _ | ((try dsimp only); (try simp only [World.size_alloc, grow_size, World.size_setCell]); omega))))))).mono ?_; rintro e w1 ⟨rfl, hy⟩))
    refine ⟨_, Ext.refl _, hy, ?_⟩
    refine step_act (by rfl) (fun K hK => ?_)
    go_wp2_with fail
    refine ⟨_, Ext.refl _, (by repeat (first | (with_reducible exact Ext.refl _) | (with_reducible refine Ext.undrew ?_) | (with_reducible refine Ext.grow ?_ _) | (with_reducible refine Ext.drew ?_) | (with_reducible refine Ext.drewN ?_ _) | (with_reducible refine Ext.alloc ?_ _) | (with_reducible assumption) | ((with_reducible refine Ext.setCell ?_ ?_ _); rotate_left; (first | exact Nat.le_refl _ | ((try dsimp only); (try simp only [World.size_alloc, grow_size, World.size_setCell]); omega))))), ?_⟩
    refine step_gen (fun W => Hid (Ext W0 W) ∧ Hid (Ext (Go.Proofs.Ytfpfmjcajdknoaa.grow W0 d0) W) ∧ Hid (w1.heap.size < W.heap.size ∧ W.there w1.heap.size 0 30)) ⟨hid (Ext.trans (by repeat (first | (with_reducible exact Ext.refl _) | (with_reducible refine Ext.undrew ?_) | (with_reducible refine Ext.grow ?_ _) | (with_reducible refine Ext.drew ?_) | (with_reducible refine Ext.drewN ?_ _) | (with_reducible refine Ext.alloc ?_ _) | (with_reducible assumption) | ((with_reducible refine Ext.setCell ?_ ?_ _); rotate_left; (first | exact Nat.le_refl _ | ((try dsimp only); (try simp only [World.size_alloc, grow_size, World.size_setCell]); omega))))) (Ext.alloc hy _)), hid (Ext.alloc hy _), hid (there_newAt rfl (by kernel_rfl))⟩ ?_
    rintro W1 ⟨hE1, hEg, hth⟩
    have hge : W0.heap.size ≤ w1.heap.size := by have := (Ext.trans (Ext.grow (Ext.refl W0) d0) hy).size; omega
    have hlb : (Go.Proofs.Ytfpfmjcajdknoaa.grow W0 d0).heap.size ≤ w1.heap.size := hy.size
    clear hy
    generalize w1.heap.size = b at hth hge hlb ⊢
    refine step_act (by rfl) (fun K hK => ?_)
    refine wp_store_mid 54 (.tmp 5) (.tmp 10) rfl b 0 (capsList 5 F).toArray rfl rfl (by rw [capsArr_size]; exact hth.out.2) (by rw [capsArr_size]; kernel_rfl) (capsArr_one _ _) ?_
    have hO : Only (fun i => i = b) W1 (W1.setCells b 0 (capsList 5 F).toArray.toList) := Only.setCells (S := fun i => i = b) (.inl rfl) _ _ (Only.refl _ _)
    refine hK _ _ ⟨_, Ext.refl _, Ext.only hEg.out hO (by rintro i rfl; exact hlb), ?_⟩
    refine step_gen (fun W => Hid (Ext w W) ∧ Hid (Row W b 0 (capsList 5 F))) ⟨hid (Ext.trans hE0.out (Ext.only hE1.out hO (by rintro i rfl; exact hge))), hid ?hr⟩ ?_
    case hr => exact Row.of_there (by simpa using hth.out.1) (capsList_length 5 F) hth.out.2
    clear hK K hO hth hlb hE1 hEg H0 H4
    rintro W2 ⟨hE2, hR2⟩
    have hwb : w.heap.size < b := by omega
    clear hge hWs hE0
    refine step_nil ?_
    go_upto_region 4 with (first | (go_at_call 17; refine (many_ q base _ _ L _ (Stk.ext HS.out hE2.out)).mono ?_; rintro e w9 ⟨rfl, rfl⟩) | (go_at_call 24; refine (allRight_ _ _ _ F _ (Caps.rd (Caps.ofRow hR2.out)) (by omega)).mono ?_; rw [HRT.out]; rintro e w3 ⟨rfl, hy⟩))
    have hE3 := hid (Ext.trans hE2.out hy)
    have hR3 := hid (hR2.out.ext hy)
    clear hE2 hR2 hy
    generalize w3 = W3 at hE3 hR3 ⊢
    have hSb : ¬ tch q v b := by
      rintro (h | h)
      · omega
      · have := (HS.out.2.2.2.1.lt _ h).2
        omega
    have hH3 := hid (Stk.ext HS.out hE3.out)
    refine wp_region_only (S := tch q v) (.rd 0 (.rd 1 (.rd 2 (.rd 3 (.rd 5 (.br 4 (.ac 6 (.ac 7 (.rd 8 (.rd 9 (.ac 10 .done))))) 6 (.ac 4 (.ac 7 (.rd 8 (.rd 9 (.ac 10 .done))))))))))) (by kernel_rfl) (by kernel_rfl) (fun _ _ d _ _ h => by cases d <;> exact h) (by simp only [Ord.map, nthOp, List.append]; rfl) ?_
    intro d1
    have hR5 := hid (hR3.out.ext (Ext.grow (Ext.refl W3) d1))
    have hH4 := hid (Stk.ext hH3.out (Ext.grow (Ext.refl W3) d1))
    have hxW4 : Hid (Ext W3 (Go.Proofs.Ytfpfmjcajdknoaa.grow W3 d1)) := hid (Ext.grow (Ext.refl W3) d1)
    generalize Go.Proofs.Ytfpfmjcajdknoaa.grow W3 d1 = W4 at hR5 hH4 hxW4 ⊢
    have hc4 := hH4.out.2.1
    have hf4 := hH4.out.2.2.1
    have hq3 : q < W4.heap.size := hH4.out.1
    have hbq : base ≤ q := hH4.out.2.2.2.2.1
    clear hR3 hH3
    obtain ⟨i0, z0, hi0, hz0, hz1, hz2, hz3⟩ := row_info2
    repeat' (first | (refine only_read (by rfl) (fun K hK => ?_); (refine quiet_loadC 54 (.tmp 5) rfl b 0 rfl (capsList 5 F) _ (fun w' hw' => (hR5.out.only hw' hSb).range) Try.underlying54 rfl (by rw [capsList_length]; kernel_rfl) ?_); refine hK _ ?_; clear hK K; simp only [Act.put, List.setIfInBounds_toArray, List.set_cons_zero, List.set_cons_succ]) | (refine only_read (by rfl) (fun K hK => ?_); go_big_quiet_op; refine hK _ ?_; clear hK K) | (refine only_read (by rfl) (fun K hK => ?_); refine quiet_run (.pointer (some ⟨q, 0, none⟩)) (fun w => by kernel_rfl) ?_; refine hK _ ?_; clear hK K; simp only [Act.put, List.setIfInBounds_toArray, List.set_cons_zero, List.set_cons_succ]))
    refine only_br ?_ ?_
    · refine only_act (by rfl) (fun K hK => ?_)
      go_wp2_with fail
      refine ⟨_, Only.refl _ _, Only.refl _ _, ?_⟩
      refine only_act (by rfl) (fun K hK => ?_)
      refine wp_build1 48 54 (.tmp 24) rfl (capsList 5 F).toArray 30 rfl (by rw [capsArr_size]) (by omega) (by omega) Try.underlying48 (by kernel_rfl) (by kernel_rfl) ?_
      refine hK _ _ ⟨_, Only.refl _ _, Only.ofExt (Ext.alloc (Ext.refl _) _), ?_⟩
      refine only_gen (fun W => Hid (Ext W4 W) ∧ Hid (Row W W4.heap.size 0 (capsList 5 F))) ⟨hid (Ext.alloc (Ext.refl _) _), hid (Row.new W4 _ _)⟩ ?_
      clear hK K
      rintro w4 ⟨hE4, hR4⟩
      have hown4 := hid (ownsRow_ext hH4.out.2.2.2.1 hE4.out)
      have hb4 : base ≤ w4.heap.size := by have := hE4.out.size; omega
      have hq4 : q < w4.heap.size := by have := hE4.out.size; omega
      have hc5 := (hE4.out.cells q 0 hq3).trans hc4
      have hf5 := (hE4.out.frozens q 0 hq3).trans hf4
      have hS5 : Hid (Only (tch q v) W4 w4) := hid (Only.ofExt hE4.out)
      refine only_act (by rfl) (fun K hK => ?_)
      refine wp_append_lies _ (.tmp 23) (.tmp 25) 48 rfl base 54 i0 z0 30 240 Try.underlying48 hi0 hz0 hz2 hz3 hz1 (by omega) v n (capsList (n * 5) L) rfl hown4.out ⟨W4.heap.size, 0, none⟩ 1 1 (capsList 5 F) rfl (by rw [capsList_length]) (fun j u hj => by rw [Addr.add_lit]; exact hR4.out.range j u hj) (capsList_one 5 F) (by omega) (by unfold maxLen; omega) (by omega) hb4 _ rfl ?_
      intro g cap w6 hown6 hgrow hat hlt
      rw [appL_list] at hown6
      have hS6 : Hid (Only (tch q v) W4 w6) := hid (Only.trans' hS5.out (grownOnly hgrow fun g hg => .inr hg))
      have hgq : ¬ g = q := by
        rcases hat with h | h
        · exact HS.out.apart g h
        · omega
      have hnew : v.ownBlock = some g ∨ w.heap.size ≤ g := hat.imp_right fun h => by
        have h1 := hE3.out.size
        have h2 := hxW4.out.size
        have h3 := hE4.out.size
        omega
      have hqo : ∀ g', v.ownBlock = some g' → ¬ q = g' := fun g' h e => HS.out.apart g' h e.symm
      have hG6 : Only (fun i => v.ownBlock = some i) w4 w6 := grownOnly hgrow fun g hg => hg
      have hq6 : q < w6.heap.size := Nat.lt_of_lt_of_le hq4 hG6.size
      have hc6 := (hG6.cells q 0 hq4 (fun h => hqo q h rfl)).trans hc5
      have hf6 := (hG6.frozens q 0 hq4 (fun h => hqo q h rfl)).trans hf5
      have hown6 := hid hown6
      refine hK _ _ ⟨_, Only.refl _ _, hS6.out, ?_⟩
      clear hK K hgrow hG6 hS5 hown4 hR4 hE4 hc4 hf4 hc5 hf5 hat hqo
      repeat' (refine only_read (by rfl) (fun K hK => ?_); refine quiet_run (.pointer (some ⟨q, 0, none⟩)) (fun w => by kernel_rfl) ?_; refine hK _ ?_; clear hK K; simp only [Act.put, List.setIfInBounds_toArray, List.set_cons_zero, List.set_cons_succ])
      refine only_act (by rfl) (fun K hK => ?_)
      go_wp2_with fail
      refine ⟨_, Only.refl _ _, Only.setCell (S := tch q v) hS6.out (Or.inl (show tch q v q from Or.inl rfl)) _, ?_⟩
      refine only_nil ?_
      go_wp2
      go_ret
      refine ⟨_, rfl, ⟨by simpa [go_sem] using hq6, by simp [go_sem, hc6], by simp [go_sem, hf6], ownsRow_only (S := fun i => i = q) hown6.out (Only.setCell (S := fun i => i = q) (Only.refl _ _) (.inl rfl) _) (fun g' hg' => ?_), HS.out.2.2.2.2.1, fun g' hg' => ?_⟩, Only.trans' (Only.ofExt hE3.out) (Only.trans' (Only.ofExt hxW4.out) (Only.setCell (S := tch q v) hS6.out (Or.inl (show tch q v q from Or.inl rfl)) _)), fun g' hg' => ?_⟩
      · obtain rfl : g = g' := by simpa [Value.ownBlock] using hg'
        exact hgq
      · obtain rfl : g = g' := by simpa [Value.ownBlock] using hg'
        exact hgq
      · obtain rfl : g = g' := by simpa [Value.ownBlock] using hg'
        exact hnew

    · refine only_act (by rfl) (fun K hK => ?_)
      refine wp_build1 48 54 (.tmp 24) rfl (capsList 5 F).toArray 30 rfl (by rw [capsArr_size]) (by omega) (by omega) Try.underlying48 (by kernel_rfl) (by kernel_rfl) ?_
      refine hK _ _ ⟨_, Only.refl _ _, Only.ofExt (Ext.alloc (Ext.refl _) _), ?_⟩
      refine only_gen (fun W => Hid (Ext W4 W) ∧ Hid (Row W W4.heap.size 0 (capsList 5 F))) ⟨hid (Ext.alloc (Ext.refl _) _), hid (Row.new W4 _ _)⟩ ?_
      clear hK K
      rintro w4 ⟨hE4, hR4⟩
      have hown4 := hid (ownsRow_ext hH4.out.2.2.2.1 hE4.out)
      have hb4 : base ≤ w4.heap.size := by have := hE4.out.size; omega
      have hq4 : q < w4.heap.size := by have := hE4.out.size; omega
      have hc5 := (hE4.out.cells q 0 hq3).trans hc4
      have hf5 := (hE4.out.frozens q 0 hq3).trans hf4
      have hS5 : Hid (Only (tch q v) W4 w4) := hid (Only.ofExt hE4.out)
      refine only_act (by rfl) (fun K hK => ?_)
      go_wp2_with fail
      refine ⟨_, Only.refl _ _, hS5.out, ?_⟩
      refine only_act (by rfl) (fun K hK => ?_)
      refine wp_append_lies _ (.tmp 23) (.tmp 25) 48 rfl base 54 i0 z0 30 240 Try.underlying48 hi0 hz0 hz2 hz3 hz1 (by omega) v n (capsList (n * 5) L) rfl hown4.out ⟨W4.heap.size, 0, none⟩ 1 1 (capsList 5 F) rfl (by rw [capsList_length]) (fun j u hj => by rw [Addr.add_lit]; exact hR4.out.range j u hj) (capsList_one 5 F) (by omega) (by unfold maxLen; omega) (by omega) hb4 _ rfl ?_
      intro g cap w6 hown6 hgrow hat hlt
      rw [appL_list] at hown6
      have hS6 : Hid (Only (tch q v) W4 w6) := hid (Only.trans' hS5.out (grownOnly hgrow fun g hg => .inr hg))
      have hgq : ¬ g = q := by
        rcases hat with h | h
        · exact HS.out.apart g h
        · omega
      have hnew : v.ownBlock = some g ∨ w.heap.size ≤ g := hat.imp_right fun h => by
        have h1 := hE3.out.size
        have h2 := hxW4.out.size
        have h3 := hE4.out.size
        omega
      have hqo : ∀ g', v.ownBlock = some g' → ¬ q = g' := fun g' h e => HS.out.apart g' h e.symm
      have hG6 : Only (fun i => v.ownBlock = some i) w4 w6 := grownOnly hgrow fun g hg => hg
      have hq6 : q < w6.heap.size := Nat.lt_of_lt_of_le hq4 hG6.size
      have hc6 := (hG6.cells q 0 hq4 (fun h => hqo q h rfl)).trans hc5
      have hf6 := (hG6.frozens q 0 hq4 (fun h => hqo q h rfl)).trans hf5
      have hown6 := hid hown6
      refine hK _ _ ⟨_, Only.refl _ _, hS6.out, ?_⟩
      clear hK K hgrow hG6 hS5 hown4 hR4 hE4 hc4 hf4 hc5 hf5 hat hqo
      repeat' (refine only_read (by rfl) (fun K hK => ?_); refine quiet_run (.pointer (some ⟨q, 0, none⟩)) (fun w => by kernel_rfl) ?_; refine hK _ ?_; clear hK K; simp only [Act.put, List.setIfInBounds_toArray, List.set_cons_zero, List.set_cons_succ])
      refine only_act (by rfl) (fun K hK => ?_)
      go_wp2_with fail
      refine ⟨_, Only.refl _ _, Only.setCell (S := tch q v) hS6.out (Or.inl (show tch q v q from Or.inl rfl)) _, ?_⟩
      refine only_nil ?_
      go_wp2
      go_ret
      refine ⟨_, rfl, ⟨by simpa [go_sem] using hq6, by simp [go_sem, hc6], by simp [go_sem, hf6], ownsRow_only (S := fun i => i = q) hown6.out (Only.setCell (S := fun i => i = q) (Only.refl _ _) (.inl rfl) _) (fun g' hg' => ?_), HS.out.2.2.2.2.1, fun g' hg' => ?_⟩, Only.trans' (Only.ofExt hE3.out) (Only.trans' (Only.ofExt hxW4.out) (Only.setCell (S := tch q v) hS6.out (Or.inl (show tch q v q from Or.inl rfl)) _)), fun g' hg' => ?_⟩
      · obtain rfl : g = g' := by simpa [Value.ownBlock] using hg'
        exact hgq
      · obtain rfl : g = g' := by simpa [Value.ownBlock] using hg'
        exact hgq
      · obtain rfl : g = g' := by simpa [Value.ownBlock] using hg'
        exact hnew


  · refine step_act (by rfl) (fun K hK => ?_)
    go_wp2_with fail
    refine ⟨_, Ext.refl _, (by repeat (first | (with_reducible exact Ext.refl _) | (with_reducible refine Ext.undrew ?_) | (with_reducible refine Ext.grow ?_ _) | (with_reducible refine Ext.drew ?_) | (with_reducible refine Ext.drewN ?_ _) | (with_reducible refine Ext.alloc ?_ _) | (with_reducible assumption) | ((with_reducible refine Ext.setCell ?_ ?_ _); rotate_left; (first | exact Nat.le_refl _ | ((try dsimp only); (try simp only [World.size_alloc, grow_size, World.size_setCell]); omega))))), ?_⟩
    refine step_gen (fun W => Hid (Ext W0 W) ∧ Hid (Ext (Go.Proofs.Ytfpfmjcajdknoaa.grow W0 d0) W) ∧ Hid (W0.heap.size + d0.n < W.heap.size ∧ W.there (W0.heap.size + d0.n) 0 30)) ⟨hid (by repeat (first | (with_reducible exact Ext.refl _) | (with_reducible refine Ext.undrew ?_) | (with_reducible refine Ext.grow ?_ _) | (with_reducible refine Ext.drew ?_) | (with_reducible refine Ext.drewN ?_ _) | (with_reducible refine Ext.alloc ?_ _) | (with_reducible assumption) | ((with_reducible refine Ext.setCell ?_ ?_ _); rotate_left; (first | exact Nat.le_refl _ | ((try dsimp only); (try simp only [World.size_alloc, grow_size, World.size_setCell]); omega))))), hid (by repeat (first | (with_reducible exact Ext.refl _) | (with_reducible refine Ext.undrew ?_) | (with_reducible refine Ext.grow ?_ _) | (with_reducible refine Ext.drew ?_) | (with_reducible refine Ext.drewN ?_ _) | (with_reducible refine Ext.alloc ?_ _) | (with_reducible assumption) | ((with_reducible refine Ext.setCell ?_ ?_ _); rotate_left; (first | exact Nat.le_refl _ | ((try dsimp only); (try simp only [World.size_alloc, grow_size, World.size_setCell]); omega))))), hid (there_newAt (by simp [grow_size]) (by kernel_rfl))⟩ ?_
    rintro W1 ⟨hE1, hEg, hth⟩
    have hge : W0.heap.size ≤ W0.heap.size + d0.n := by omega
    have hlb : (Go.Proofs.Ytfpfmjcajdknoaa.grow W0 d0).heap.size ≤ W0.heap.size + d0.n := by simp [grow_size]
    generalize W0.heap.size + d0.n = b at hth hge hlb ⊢
    refine step_act (by rfl) (fun K hK => ?_)
    go_wp2_with (go_at_call 25; refine (rowOf_ F w.heap.size 6 4 _ (H4.out.ext hE1.out)).mono ?_; rintro e w1 ⟨rfl, hy⟩)
    refine ⟨_, Ext.refl _, Ext.trans hEg.out hy, ?_⟩
    refine step_gen (fun W => Hid (Ext W0 W) ∧ Hid (Ext (Go.Proofs.Ytfpfmjcajdknoaa.grow W0 d0) W) ∧ Hid (b < W.heap.size ∧ W.there b 0 30)) ⟨hid (Ext.trans hE1.out hy), hid (Ext.trans hEg.out hy), hid ⟨Nat.lt_of_lt_of_le hth.out.1 hy.size, there_ext hth.out hy⟩⟩ ?_
    clear hy hth hE1 hEg
    rintro W1 ⟨hE1, hEg, hth⟩
    refine step_act (by rfl) (fun K hK => ?_)
    refine wp_store_mid 54 (.tmp 5) (.tmp 10) rfl b 0 (capsList 5 F).toArray rfl rfl (by rw [capsArr_size]; exact hth.out.2) (by rw [capsArr_size]; kernel_rfl) (capsArr_one _ _) ?_
    have hO : Only (fun i => i = b) W1 (W1.setCells b 0 (capsList 5 F).toArray.toList) := Only.setCells (S := fun i => i = b) (.inl rfl) _ _ (Only.refl _ _)
    refine hK _ _ ⟨_, Ext.refl _, Ext.only hEg.out hO (by rintro i rfl; exact hlb), ?_⟩
    refine step_gen (fun W => Hid (Ext w W) ∧ Hid (Row W b 0 (capsList 5 F))) ⟨hid (Ext.trans hE0.out (Ext.only hE1.out hO (by rintro i rfl; exact hge))), hid ?hr⟩ ?_
    case hr => exact Row.of_there (by simpa using hth.out.1) (capsList_length 5 F) hth.out.2
    clear hK K hO hth hlb hE1 hEg H0 H4
    rintro W2 ⟨hE2, hR2⟩
    have hwb : w.heap.size < b := by omega
    clear hge hWs hE0
    refine step_nil ?_
    go_upto_region 4 with (first | (go_at_call 17; refine (many_ q base _ _ L _ (Stk.ext HS.out hE2.out)).mono ?_; rintro e w9 ⟨rfl, rfl⟩) | (go_at_call 24; refine (allRight_ _ _ _ F _ (Caps.rd (Caps.ofRow hR2.out)) (by omega)).mono ?_; rw [HRT.out]; rintro e w3 ⟨rfl, hy⟩))
    have hE3 := hid (Ext.trans hE2.out hy)
    have hR3 := hid (hR2.out.ext hy)
    clear hE2 hR2 hy
    generalize w3 = W3 at hE3 hR3 ⊢
    have hSb : ¬ tch q v b := by
      rintro (h | h)
      · omega
      · have := (HS.out.2.2.2.1.lt _ h).2
        omega
    have hH3 := hid (Stk.ext HS.out hE3.out)
    refine wp_region_only (S := tch q v) (.rd 0 (.rd 1 (.rd 2 (.rd 3 (.rd 5 (.br 4 (.ac 6 (.ac 7 (.rd 8 (.rd 9 (.ac 10 .done))))) 6 (.ac 4 (.ac 7 (.rd 8 (.rd 9 (.ac 10 .done))))))))))) (by kernel_rfl) (by kernel_rfl) (fun _ _ d _ _ h => by cases d <;> exact h) (by simp only [Ord.map, nthOp, List.append]; rfl) ?_
    intro d1
    have hR5 := hid (hR3.out.ext (Ext.grow (Ext.refl W3) d1))
    have hH4 := hid (Stk.ext hH3.out (Ext.grow (Ext.refl W3) d1))
    have hxW4 : Hid (Ext W3 (Go.Proofs.Ytfpfmjcajdknoaa.grow W3 d1)) := hid (Ext.grow (Ext.refl W3) d1)
    generalize Go.Proofs.Ytfpfmjcajdknoaa.grow W3 d1 = W4 at hR5 hH4 hxW4 ⊢
    have hc4 := hH4.out.2.1
    have hf4 := hH4.out.2.2.1
    have hq3 : q < W4.heap.size := hH4.out.1
    have hbq : base ≤ q := hH4.out.2.2.2.2.1
    clear hR3 hH3
    obtain ⟨i0, z0, hi0, hz0, hz1, hz2, hz3⟩ := row_info2
    repeat' (first | (refine only_read (by rfl) (fun K hK => ?_); (refine quiet_loadC 54 (.tmp 5) rfl b 0 rfl (capsList 5 F) _ (fun w' hw' => (hR5.out.only hw' hSb).range) Try.underlying54 rfl (by rw [capsList_length]; kernel_rfl) ?_); refine hK _ ?_; clear hK K; simp only [Act.put, List.setIfInBounds_toArray, List.set_cons_zero, List.set_cons_succ]) | (refine only_read (by rfl) (fun K hK => ?_); go_big_quiet_op; refine hK _ ?_; clear hK K) | (refine only_read (by rfl) (fun K hK => ?_); refine quiet_run (.pointer (some ⟨q, 0, none⟩)) (fun w => by kernel_rfl) ?_; refine hK _ ?_; clear hK K; simp only [Act.put, List.setIfInBounds_toArray, List.set_cons_zero, List.set_cons_succ]))
    refine only_br ?_ ?_
    · refine only_act (by rfl) (fun K hK => ?_)
      go_wp2_with fail
      refine ⟨_, Only.refl _ _, Only.refl _ _, ?_⟩
      refine only_act (by rfl) (fun K hK => ?_)
      refine wp_build1 48 54 (.tmp 24) rfl (capsList 5 F).toArray 30 rfl (by rw [capsArr_size]) (by omega) (by omega) Try.underlying48 (by kernel_rfl) (by kernel_rfl) ?_
      refine hK _ _ ⟨_, Only.refl _ _, Only.ofExt (Ext.alloc (Ext.refl _) _), ?_⟩
      refine only_gen (fun W => Hid (Ext W4 W) ∧ Hid (Row W W4.heap.size 0 (capsList 5 F))) ⟨hid (Ext.alloc (Ext.refl _) _), hid (Row.new W4 _ _)⟩ ?_
      clear hK K
      rintro w4 ⟨hE4, hR4⟩
      have hown4 := hid (ownsRow_ext hH4.out.2.2.2.1 hE4.out)
      have hb4 : base ≤ w4.heap.size := by have := hE4.out.size; omega
      have hq4 : q < w4.heap.size := by have := hE4.out.size; omega
      have hc5 := (hE4.out.cells q 0 hq3).trans hc4
      have hf5 := (hE4.out.frozens q 0 hq3).trans hf4
      have hS5 : Hid (Only (tch q v) W4 w4) := hid (Only.ofExt hE4.out)
      refine only_act (by rfl) (fun K hK => ?_)
      refine wp_append_lies _ (.tmp 23) (.tmp 25) 48 rfl base 54 i0 z0 30 240 Try.underlying48 hi0 hz0 hz2 hz3 hz1 (by omega) v n (capsList (n * 5) L) rfl hown4.out ⟨W4.heap.size, 0, none⟩ 1 1 (capsList 5 F) rfl (by rw [capsList_length]) (fun j u hj => by rw [Addr.add_lit]; exact hR4.out.range j u hj) (capsList_one 5 F) (by omega) (by unfold maxLen; omega) (by omega) hb4 _ rfl ?_
      intro g cap w6 hown6 hgrow hat hlt
      rw [appL_list] at hown6
      have hS6 : Hid (Only (tch q v) W4 w6) := hid (Only.trans' hS5.out (grownOnly hgrow fun g hg => .inr hg))
      have hgq : ¬ g = q := by
        rcases hat with h | h
        · exact HS.out.apart g h
        · omega
      have hnew : v.ownBlock = some g ∨ w.heap.size ≤ g := hat.imp_right fun h => by
        have h1 := hE3.out.size
        have h2 := hxW4.out.size
        have h3 := hE4.out.size
        omega
      have hqo : ∀ g', v.ownBlock = some g' → ¬ q = g' := fun g' h e => HS.out.apart g' h e.symm
      have hG6 : Only (fun i => v.ownBlock = some i) w4 w6 := grownOnly hgrow fun g hg => hg
      have hq6 : q < w6.heap.size := Nat.lt_of_lt_of_le hq4 hG6.size
      have hc6 := (hG6.cells q 0 hq4 (fun h => hqo q h rfl)).trans hc5
      have hf6 := (hG6.frozens q 0 hq4 (fun h => hqo q h rfl)).trans hf5
      have hown6 := hid hown6
      refine hK _ _ ⟨_, Only.refl _ _, hS6.out, ?_⟩
      clear hK K hgrow hG6 hS5 hown4 hR4 hE4 hc4 hf4 hc5 hf5 hat hqo
      repeat' (refine only_read (by rfl) (fun K hK => ?_); refine quiet_run (.pointer (some ⟨q, 0, none⟩)) (fun w => by kernel_rfl) ?_; refine hK _ ?_; clear hK K; simp only [Act.put, List.setIfInBounds_toArray, List.set_cons_zero, List.set_cons_succ])
      refine only_act (by rfl) (fun K hK => ?_)
      go_wp2_with fail
      refine ⟨_, Only.refl _ _, Only.setCell (S := tch q v) hS6.out (Or.inl (show tch q v q from Or.inl rfl)) _, ?_⟩
      refine only_nil ?_
      go_wp2
      go_ret
      refine ⟨_, rfl, ⟨by simpa [go_sem] using hq6, by simp [go_sem, hc6], by simp [go_sem, hf6], ownsRow_only (S := fun i => i = q) hown6.out (Only.setCell (S := fun i => i = q) (Only.refl _ _) (.inl rfl) _) (fun g' hg' => ?_), HS.out.2.2.2.2.1, fun g' hg' => ?_⟩, Only.trans' (Only.ofExt hE3.out) (Only.trans' (Only.ofExt hxW4.out) (Only.setCell (S := tch q v) hS6.out (Or.inl (show tch q v q from Or.inl rfl)) _)), fun g' hg' => ?_⟩
      · obtain rfl : g = g' := by simpa [Value.ownBlock] using hg'
        exact hgq
      · obtain rfl : g = g' := by simpa [Value.ownBlock] using hg'
        exact hgq
      · obtain rfl : g = g' := by simpa [Value.ownBlock] using hg'
        exact hnew

    · refine only_act (by rfl) (fun K hK => ?_)
      refine wp_build1 48 54 (.tmp 24) rfl (capsList 5 F).toArray 30 rfl (by rw [capsArr_size]) (by omega) (by omega) Try.underlying48 (by kernel_rfl) (by kernel_rfl) ?_
      refine hK _ _ ⟨_, Only.refl _ _, Only.ofExt (Ext.alloc (Ext.refl _) _), ?_⟩
      refine only_gen (fun W => Hid (Ext W4 W) ∧ Hid (Row W W4.heap.size 0 (capsList 5 F))) ⟨hid (Ext.alloc (Ext.refl _) _), hid (Row.new W4 _ _)⟩ ?_
      clear hK K
      rintro w4 ⟨hE4, hR4⟩
      have hown4 := hid (ownsRow_ext hH4.out.2.2.2.1 hE4.out)
      have hb4 : base ≤ w4.heap.size := by have := hE4.out.size; omega
      have hq4 : q < w4.heap.size := by have := hE4.out.size; omega
      have hc5 := (hE4.out.cells q 0 hq3).trans hc4
      have hf5 := (hE4.out.frozens q 0 hq3).trans hf4
      have hS5 : Hid (Only (tch q v) W4 w4) := hid (Only.ofExt hE4.out)
      refine only_act (by rfl) (fun K hK => ?_)
      go_wp2_with fail
      refine ⟨_, Only.refl _ _, hS5.out, ?_⟩
      refine only_act (by rfl) (fun K hK => ?_)
      refine wp_append_lies _ (.tmp 23) (.tmp 25) 48 rfl base 54 i0 z0 30 240 Try.underlying48 hi0 hz0 hz2 hz3 hz1 (by omega) v n (capsList (n * 5) L) rfl hown4.out ⟨W4.heap.size, 0, none⟩ 1 1 (capsList 5 F) rfl (by rw [capsList_length]) (fun j u hj => by rw [Addr.add_lit]; exact hR4.out.range j u hj) (capsList_one 5 F) (by omega) (by unfold maxLen; omega) (by omega) hb4 _ rfl ?_
      intro g cap w6 hown6 hgrow hat hlt
      rw [appL_list] at hown6
      have hS6 : Hid (Only (tch q v) W4 w6) := hid (Only.trans' hS5.out (grownOnly hgrow fun g hg => .inr hg))
      have hgq : ¬ g = q := by
        rcases hat with h | h
        · exact HS.out.apart g h
        · omega
      have hnew : v.ownBlock = some g ∨ w.heap.size ≤ g := hat.imp_right fun h => by
        have h1 := hE3.out.size
        have h2 := hxW4.out.size
        have h3 := hE4.out.size
        omega
      have hqo : ∀ g', v.ownBlock = some g' → ¬ q = g' := fun g' h e => HS.out.apart g' h e.symm
      have hG6 : Only (fun i => v.ownBlock = some i) w4 w6 := grownOnly hgrow fun g hg => hg
      have hq6 : q < w6.heap.size := Nat.lt_of_lt_of_le hq4 hG6.size
      have hc6 := (hG6.cells q 0 hq4 (fun h => hqo q h rfl)).trans hc5
      have hf6 := (hG6.frozens q 0 hq4 (fun h => hqo q h rfl)).trans hf5
      have hown6 := hid hown6
      refine hK _ _ ⟨_, Only.refl _ _, hS6.out, ?_⟩
      clear hK K hgrow hG6 hS5 hown4 hR4 hE4 hc4 hf4 hc5 hf5 hat hqo
      repeat' (refine only_read (by rfl) (fun K hK => ?_); refine quiet_run (.pointer (some ⟨q, 0, none⟩)) (fun w => by kernel_rfl) ?_; refine hK _ ?_; clear hK K; simp only [Act.put, List.setIfInBounds_toArray, List.set_cons_zero, List.set_cons_succ])
      refine only_act (by rfl) (fun K hK => ?_)
      go_wp2_with fail
      refine ⟨_, Only.refl _ _, Only.setCell (S := tch q v) hS6.out (Or.inl (show tch q v q from Or.inl rfl)) _, ?_⟩
      refine only_nil ?_
      go_wp2
      go_ret
      refine ⟨_, rfl, ⟨by simpa [go_sem] using hq6, by simp [go_sem, hc6], by simp [go_sem, hf6], ownsRow_only (S := fun i => i = q) hown6.out (Only.setCell (S := fun i => i = q) (Only.refl _ _) (.inl rfl) _) (fun g' hg' => ?_), HS.out.2.2.2.2.1, fun g' hg' => ?_⟩, Only.trans' (Only.ofExt hE3.out) (Only.trans' (Only.ofExt hxW4.out) (Only.setCell (S := tch q v) hS6.out (Or.inl (show tch q v q from Or.inl rfl)) _)), fun g' hg' => ?_⟩
      · obtain rfl : g = g' := by simpa [Value.ownBlock] using hg'
        exact hgq
      · obtain rfl : g = g' := by simpa [Value.ownBlock] using hg'
        exact hgq
      · obtain rfl : g = g' := by simpa [Value.ownBlock] using hg'
        exact hnew



end Go.Proofs.Ytfpfmjcajdknoaa
