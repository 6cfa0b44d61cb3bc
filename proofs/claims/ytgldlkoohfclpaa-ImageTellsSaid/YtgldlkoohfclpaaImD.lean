/- Layer 17: linksFrom. -/
import Derived.Test.YtgldlkoohfclpaaImA
namespace Go.Proofs.Ytgldlkoohfclpaa
set_option linter.unusedSimpArgs false
set_option linter.unusedVariables false
open Go.RowKit

theorem grownOnly {S : Nat → Prop} {w w' : World} {row : Option Nat} (h : w.grownBy w' row) (hs : ∀ g, row = some g → S g) : Only S w w' :=
  ⟨h.os, h.tape, h.output, h.size, fun k hk hn => h.block k hk fun e => hn (hs k e.symm)⟩
theorem Row.new (w : World) (cs : Array Value) (T : TypeId) : Row (w.alloc (.cells cs T)) w.heap.size 0 cs.toList :=
  ⟨by simp, fun j v hj => by simp [go_sem]; simpa using hj, fun j hj => by simp [go_sem]⟩
theorem wp_gen {P : Program} {a : Act} {Q : Exit → Act → World → Prop} {c : Code} {w : World} (I : World → Prop) (hI : I w) (h : ∀ w', I w' → c.wp P Q a w') : c.wp P Q a w := h w hI
theorem only_gen {S : Nat → Prop} {P : Program} {ops : Array Oper} {Q : Exit → Act → World → Prop} {r : Ord Oper} {W : World} {a : Act} {w : World} (I : World → Prop) (hI : I w) (h : ∀ w', I w' → wpOnly S P ops Q r W a w') : wpOnly S P ops Q r W a w := h w hI
theorem step_gen {P : Program} {ops : Array Oper} {Q : Exit → Act → World → Prop} {r : Ord Oper} {W : World} {a : Act} {w : World} (I : World → Prop) (hI : I w) (h : ∀ w', I w' → wpStep P ops Q r W a w') : wpStep P ops Q r W a w := h w hI
theorem RdF.row0 {α : Type} {f : α → List Value} {zs : List α} {w : World} {b : Nat} (h : Row w b 0 (rowF f zs)) : RdF f w (some ⟨b, 0, none⟩) zs := fun _ =>
  ⟨b, 0, rfl, h.lt, fun j u hj => h.range j u hj⟩
def lfF (l : List Lnk) (n : Int) : List Lnk := l.filter fun d => d.fr == n
theorem lf_snoc (l : List Lnk) (d : Lnk) (n : Int) : lfF (l ++ [d]) n = if (d.fr == n) = true then lfF l n ++ [d] else lfF l n := by
  unfold lfF
  rw [List.filter_append]
  split
  · rename_i h; simp [h]
  · rename_i h; simp [h]
theorem lf_len (l : List Lnk) (n : Int) : (lfF l n).length ≤ l.length := List.length_filter_le _ _
set_option maxRecDepth 100000 in
set_option maxHeartbeats 4000000 in
theorem linksFrom_ (x : Img) (n : Int) (w : World) (h : ImgAt w x) (hl : x.links.length ≤ 100000) : Calls Try.prog 48 #[.agg #[.bool x.strict, .int .i64 x.heap, .int .i64 x.full, .slice x.C x.comps.length x.cc, .slice x.L x.links.length x.lc, .slice x.S x.shares.length x.sc], .int .i64 n] w fun e w' => ∃ A ca, e = .returned (.slice A (lfF x.links n).length ca) ∧ Hid (ownsAt w' (w.heap.size + 1) 68 3 (.slice A (lfF x.links n).length ca) (lfF x.links n).length (rowF Lnk.cells (lfF x.links n))) ∧ Hid (Ext w w') := by
  have HL := hid h.l
  obtain ⟨m, hm⟩ : ∃ m, x.links.length = m := ⟨_, rfl⟩
  rw [hm] at hl ⊢
  have HM := hid hm
  clear h hm
  obtain ⟨La, hLa⟩ : ∃ a, x.L = a := ⟨_, rfl⟩
  rw [hLa] at HL ⊢
  clear hLa
  go_enter Try.func48, Try.ntmps48
  go_upto_region 2 with (fail)
  refine wp_gen (fun V => Hid (Ext w V) ∧ Hid (w.heap.size + 1 = V.heap.size) ∧ Hid (V.cell? ⟨w.heap.size, 4, none⟩ = some (.slice La m x.lc))) ⟨hid (by repeat (first | (with_reducible exact Ext.refl _) | (with_reducible refine Ext.undrew ?_) | (with_reducible refine Ext.grow ?_ _) | (with_reducible refine Ext.drew ?_) | (with_reducible refine Ext.drewN ?_ _) | (with_reducible refine Ext.alloc ?_ _) | (with_reducible assumption) | ((with_reducible refine Ext.setCell ?_ ?_ _); rotate_left; (first | exact Nat.le_refl _ | ((try dsimp only); (try simp only [World.size_alloc, grow_size, World.size_setCell]); omega))))), hid (by simp), hid (by simp [go_sem])⟩ ?_
  rintro V ⟨HV, HVS, HVC⟩
  have hvc := HVC.out
  have hvl : w.heap.size < V.heap.size := by have := HVS.out; omega
  go_wp2
  clear hvc hvl
  go_loopw [5, 11] (fun v i wr => ∃ k : Nat, k ≤ m ∧ i = .int .i64 k ∧ Hid (ownsAt wr V.heap.size 68 3 v (lfF (x.links.take k) n).length (rowF Lnk.cells (lfF (x.links.take k) n))) ∧ Hid (Ext V wr)) (fun _ i _ => m - (intOf i).toNat)
  case atStart => exact ⟨0, Nat.zero_le _, rfl, hid (ownsAt_nil _ _ _ _), hid (Ext.refl _)⟩
  case round =>
    obtain ⟨k, hk, rfl, HO, HX⟩ := hrel
    obtain ⟨Av, cv, rfl, _, _⟩ := HO.out.shape
    have hgl := lf_len (x.links.take k) n
    rw [List.length_take] at hgl
    have hsz := HX.out.size
    by_cases hlt : k < m
    · have hk1 : (k : Int) < (m : Int) := by omega
      have hk0 : (0 : Int) ≤ (k : Int) := by omega
      have hkl : k < x.links.length := by rw [HM.out]; exact hlt
      obtain ⟨d, hd⟩ : ∃ d, x.links[k] = d := ⟨_, rfl⟩
      have HT0 := hid (show lfF (x.links.take (k + 1)) n = if (d.fr == n) = true then (lfF (x.links.take k) n) ++ [d] else (lfF (x.links.take k) n) by rw [List.take_succ_eq_append_getElem hkl, hd]; exact lf_snoc _ d n)
      obtain ⟨b', o', eA, hb1, hrg⟩ := (HL.out.ext (HV.out.trans HX.out)).elem lnk_len hkl d hd
      have q0 := hrg 0 _ rfl
      have q1 := hrg 1 _ rfl
      have q2 := hrg 2 _ rfl
      simp only [Nat.add_zero] at q0
      subst eA
      clear hd hrg
      cases hq : (d.fr == n) with
      | false =>
        have HT := hid (show lfF (x.links.take (k + 1)) n = (lfF (x.links.take k) n) by rw [HT0.out, hq]; rfl)
        go_wp2
        go_roundw
        case rel => exact ⟨k + 1, by omega, by go_num, by rw [HT.out]; exact hid (HO.out.ext (by repeat (first | (with_reducible exact Ext.refl _) | (with_reducible refine Ext.undrew ?_) | (with_reducible refine Ext.grow ?_ _) | (with_reducible refine Ext.drew ?_) | (with_reducible refine Ext.drewN ?_ _) | (with_reducible refine Ext.alloc ?_ _) | (with_reducible assumption) | ((with_reducible refine Ext.setCell ?_ ?_ _); rotate_left; (first | exact Nat.le_refl _ | ((try dsimp only); (try simp only [World.size_alloc, grow_size, World.size_setCell]); omega)))))), hid (HX.out.trans (by repeat (first | (with_reducible exact Ext.refl _) | (with_reducible refine Ext.undrew ?_) | (with_reducible refine Ext.grow ?_ _) | (with_reducible refine Ext.drew ?_) | (with_reducible refine Ext.drewN ?_ _) | (with_reducible refine Ext.alloc ?_ _) | (with_reducible assumption) | ((with_reducible refine Ext.setCell ?_ ?_ _); rotate_left; (first | exact Nat.le_refl _ | ((try dsimp only); (try simp only [World.size_alloc, grow_size, World.size_setCell]); omega))))))⟩
        case measure => simp [intOf]; omega
      | true =>
        have HT := hid (show lfF (x.links.take (k + 1)) n = (lfF (x.links.take k) n) ++ [d] by rw [HT0.out, if_pos hq])
        go_wp2_with (at_builtin; refine wpList_plain rfl fun K hK => ?_; go_loud (refine wp_app_row lnk_len (by decide) lnk_one Try.underlying23 info_lnkN _ _ rfl V.heap.size (.slice Av (lfF (x.links.take k) n).length cv) (lfF (x.links.take k) n).length (rowF Lnk.cells (lfF (x.links.take k) n)) rfl (HO.out.ext ((Ext.alloc (Ext.refl _) _).alloc _)) (some ⟨wr.heap.size + 1, 0, none⟩) 1 1 [d] rfl rfl (RdF.row0 (by have h9 := Row.new (wr.alloc (.cells #[.int .i64 d.fr, .int .i64 d.to_, .int .i64 d.at_] 68)) #[.int .i64 d.fr, .int .i64 d.to_, .int .i64 d.at_] 68; rw [World.size_alloc] at h9; exact h9)) (by unfold maxLen; omega) (by omega) (by simp; omega) ?_); intro v7 W7 hown hgrow hat; obtain ⟨A7, c7, rfl, _, _⟩ := hown.shape; refine hK _ _ ?_; clear hK K)
        have HO5 : Hid (ownsAt W7 V.heap.size 68 3 (.slice A7 ((lfF (x.links.take k) n).length + 1) c7) (lfF (x.links.take (k + 1)) n).length (rowF Lnk.cells (lfF (x.links.take (k + 1)) n))) := hid (by
          rw [HT.out, rowF_append, List.length_append]
          exact hown)
        have HE5 : Hid (Ext V W7) := hid (Ext.only (HX.out.trans ((Ext.alloc (Ext.refl _) _).alloc _)) (grownOnly (S := fun i => V.heap.size ≤ i) hgrow (fun g e => (HO.out.lt g e).1)) (fun i hi => hi))
        clear hown hgrow hat
        go_roundw
        case rel => exact ⟨k + 1, by omega, by go_num, HO5, HE5⟩
        case measure => simp [intOf]; omega
    · obtain rfl : m = k := by omega
      have hk1 : ¬ (m : Int) < (m : Int) := by omega
      rw [show x.links.take m = x.links from List.take_of_length_le (by rw [HM.out]; exact Nat.le_refl _)] at HO ⊢
      go_wp2
      go_ret
      exact ⟨Av, cv, rfl, by rw [HVS.out]; exact HO, hid (HV.out.trans HX.out)⟩

end Go.Proofs.Ytgldlkoohfclpaa
