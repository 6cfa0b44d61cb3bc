/- Layer 18: the document has registers put. -/
import Derived.Test.YtjepkdfiihgheaaRegD
import Derived.Test.YtjepkdfiihgheaaRef2
import Derived.Deep.DrawnRows
namespace Go.Proofs.Ytjepkdfiihgheaa
set_option linter.unusedSimpArgs false
set_option linter.unusedVariables false
open Go.RowKit

attribute [local go_sem ↓] Go.wp_at_zero Go.wp_at_succ
def mixL (k : Nat) (M L : Nat → Cap) : Nat → Cap := fun i => if i < k then M i else L i
theorem mixL_succ (k : Nat) (M L : Nat → Cap) : upd (mixL k M L) k (M k) = mixL (k + 1) M L := by
  funext i
  unfold upd mixL
  by_cases e : i = k
  · subst e; rw [if_pos rfl, if_pos (by omega)]
  · rw [if_neg e]
    by_cases h : i < k
    · rw [if_pos h, if_pos (by omega)]
    · rw [if_neg h, if_neg (by omega)]
set_option maxHeartbeats 4000000 in
theorem rput (q : Nat) (L : Nat → Cap) (A : Option Addr) (n ca : Nat) (M : Nat → Cap) (w : World) (h : Fil w q L) (hA : RdC w A n M) (hne : ∀ b o, A = some ⟨b, o, none⟩ → 0 < n → ¬ b = q) (hn : n ≤ 1000000000) :
    Calls Try.prog 11 #[.pointer (some ⟨q, 0, none⟩), .slice A n ca] w fun e w' => e = .returned (.bool (okPut n M)) ∧ Fil w' q (putL n M L) ∧ Only (· = q) w w' := by
  have H := hid h
  by_cases h8 : n = 8
  · subst h8
    obtain ⟨b1, o1, rfl, h1⟩ := hA (by omega)
    have HA := hid hA
    have HG := hid h1
    have HNE := hid (hne b1 o1 rfl (by omega))
    clear h h1 hA hne
    go_enter Try.func11, Try.ntmps11
    go_wp2
    go_loopw [5] (fun i wr => ∃ k : Nat, k ≤ 8 ∧ i = .int .i64 k ∧ Hid (∀ j, j < k → rightC (M j) = true) ∧ Ext w wr) (fun i _ => 8 - (intOf i).toNat)
    case atStart => exact ⟨0, Nat.zero_le _, rfl, hid fun j hj => absurd hj (by omega), (by repeat (first | (with_reducible exact Ext.refl _) | (with_reducible refine Ext.undrew ?_) | (with_reducible refine Ext.grow ?_ _) | (with_reducible refine Ext.drew ?_) | (with_reducible refine Ext.drewN ?_ _) | (with_reducible refine Ext.alloc ?_ _) | (with_reducible assumption) | ((with_reducible refine Ext.setCell ?_ ?_ _); rotate_left; (first | exact Nat.le_refl _ | ((try dsimp only); (try simp only [World.size_alloc, grow_size, World.size_setCell]); omega)))))⟩
    case round =>
      obtain ⟨k, hk, rfl, hall, hx⟩ := hrel
      by_cases hlt : k < 8
      · obtain ⟨hb1, c0, c1, c2, c3, c4, c5⟩ := ((HG.out k hlt).ext hx).six
        cases hr : rightC (M k) with
        | true =>
          have hr' : rightC ⟨(M k).tag, (M k).base, (M k).top, (M k).at_, (M k).perms, (M k).type⟩ = true := hr
          go_wp2_with (go_at_call 23; refine (rcapRight _ _ _ _ _ _ _).mono ?_; rintro e w1 ⟨rfl, hy⟩; obtain ⟨d, rfl⟩ := hy.grown; clear hy)
          go_roundw
          case rel => exact ⟨k + 1, by omega, by go_num, hid (upto_snoc hall.out hr), (by repeat (first | (with_reducible exact Ext.refl _) | (with_reducible refine Ext.undrew ?_) | (with_reducible refine Ext.grow ?_ _) | (with_reducible refine Ext.drew ?_) | (with_reducible refine Ext.drewN ?_ _) | (with_reducible refine Ext.alloc ?_ _) | (with_reducible assumption) | ((with_reducible refine Ext.setCell ?_ ?_ _); rotate_left; (first | exact Nat.le_refl _ | ((try dsimp only); (try simp only [World.size_alloc, grow_size, World.size_setCell]); omega)))))⟩
          case measure => simp [intOf]; omega
        | false =>
          have hr' : rightC ⟨(M k).tag, (M k).base, (M k).top, (M k).at_, (M k).perms, (M k).type⟩ = false := hr
          go_wp2_with (go_at_call 23; refine (rcapRight _ _ _ _ _ _ _).mono ?_; rintro e w1 ⟨rfl, hy⟩; obtain ⟨d, rfl⟩ := hy.grown; clear hy)
          go_ret
          have ho := (okPut_8 M).trans (allR_no hlt hr)
          refine ⟨by rw [ho]; rfl, ?_, Only.ofExt (by repeat (first | (with_reducible exact Ext.refl _) | (with_reducible refine Ext.undrew ?_) | (with_reducible refine Ext.grow ?_ _) | (with_reducible refine Ext.drew ?_) | (with_reducible refine Ext.drewN ?_ _) | (with_reducible refine Ext.alloc ?_ _) | (with_reducible assumption) | ((with_reducible refine Ext.setCell ?_ ?_ _); rotate_left; (first | exact Nat.le_refl _ | ((try dsimp only); (try simp only [World.size_alloc, grow_size, World.size_setCell]); omega)))))⟩
          rw [putL_no ho]
          exact H.out.ext (by repeat (first | (with_reducible exact Ext.refl _) | (with_reducible refine Ext.undrew ?_) | (with_reducible refine Ext.grow ?_ _) | (with_reducible refine Ext.drew ?_) | (with_reducible refine Ext.drewN ?_ _) | (with_reducible refine Ext.alloc ?_ _) | (with_reducible assumption) | ((with_reducible refine Ext.setCell ?_ ?_ _); rotate_left; (first | exact Nat.le_refl _ | ((try dsimp only); (try simp only [World.size_alloc, grow_size, World.size_setCell]); omega)))))
      · have hY := hid (allR_yes (n := 8) (M := M) (fun j hj => hall.out j (by omega)))
        clear hall
        go_wp2
        obtain ⟨wo, rfl⟩ : ∃ wo : World, wo = wr := ⟨_, rfl⟩
        go_loopw [6] (fun i wr => ∃ k : Nat, k ≤ 8 ∧ i = .int .i64 k ∧ Hid (Fil wr q (mixL k M L)) ∧ Hid (Only (· = q) w wr)) (fun i _ => 8 - (intOf i).toNat)
        case atStart => exact ⟨0, Nat.zero_le _, rfl, hid (H.out.ext (by repeat (first | (with_reducible exact Ext.refl _) | (with_reducible refine Ext.undrew ?_) | (with_reducible refine Ext.grow ?_ _) | (with_reducible refine Ext.drew ?_) | (with_reducible refine Ext.drewN ?_ _) | (with_reducible refine Ext.alloc ?_ _) | (with_reducible assumption) | ((with_reducible refine Ext.setCell ?_ ?_ _); rotate_left; (first | exact Nat.le_refl _ | ((try dsimp only); (try simp only [World.size_alloc, grow_size, World.size_setCell]); omega)))))), hid (Only.ofExt (by repeat (first | (with_reducible exact Ext.refl _) | (with_reducible refine Ext.undrew ?_) | (with_reducible refine Ext.grow ?_ _) | (with_reducible refine Ext.drew ?_) | (with_reducible refine Ext.drewN ?_ _) | (with_reducible refine Ext.alloc ?_ _) | (with_reducible assumption) | ((with_reducible refine Ext.setCell ?_ ?_ _); rotate_left; (first | exact Nat.le_refl _ | ((try dsimp only); (try simp only [World.size_alloc, grow_size, World.size_setCell]); omega))))))⟩
        case round =>
          obtain ⟨k, hk, rfl, hF, hO⟩ := hrel
          by_cases hlt : k < 8
          · obtain ⟨hb1, c0, c1, c2, c3, c4, c5⟩ := ((HG.out k hlt).only hO.out HNE.out).six
            have HR := hF.out.at_ hlt
            obtain ⟨hq, d0, d1, d2, d3, d4, d5⟩ := HR.six
            obtain ⟨f0, f1, f2, f3, f4, f5⟩ := HR.frees
            have hn1 : ¬ q = b1 := fun e => HNE.out e.symm
            have hn2 := HNE.out
            have hk0 : (0 : Int) ≤ (k : Int) := by omega
            have hk1 : (k : Int) < 8 := by omega
            have HP := Fil.put hF.out hlt (M k)
            rw [mixL_succ] at HP
            simp only [Cap.cells, World.setCells, Nat.add_assoc, Nat.reduceAdd] at HP
            have HP := hid HP
            clear HR hx
            go_wp2
            go_region_held3 (fun w' => w'.cell? ⟨b1, o1 + k * 6, none⟩ = some (.bool (M k).tag) ∧ w'.cell? ⟨b1, o1 + k * 6 + 1, none⟩ = some (.int .i64 (M k).base) ∧ w'.cell? ⟨b1, o1 + k * 6 + 2, none⟩ = some (.int .i64 (M k).top) ∧ w'.cell? ⟨b1, o1 + k * 6 + 3, none⟩ = some (.int .i64 (M k).at_) ∧ w'.cell? ⟨b1, o1 + k * 6 + 4, none⟩ = some (.int .i64 (M k).perms) ∧ w'.cell? ⟨b1, o1 + k * 6 + 5, none⟩ = some (.int .i64 (M k).type)) (first | (simp [go_sem, *]; done) | go_keep) (fail)
            go_wp2
            go_roundw
            case rel => exact ⟨k + 1, by omega, by go_num, hid (HP.out.ext (by repeat (first | (with_reducible exact Ext.refl _) | (with_reducible refine Ext.undrew ?_) | (with_reducible refine Ext.grow ?_ _) | (with_reducible refine Ext.drew ?_) | (with_reducible refine Ext.drewN ?_ _) | (with_reducible refine Ext.alloc ?_ _) | (with_reducible assumption) | ((with_reducible refine Ext.setCell ?_ ?_ _); rotate_left; (first | exact Nat.le_refl _ | ((try dsimp only); (try simp only [World.size_alloc, grow_size, World.size_setCell]); omega)))))), hid (hO.out.trans' (by repeat (first | (with_reducible exact Only.refl _ _) | (with_reducible refine Only.drew ?_) | (with_reducible refine Only.grow ?_ _) | (with_reducible refine Only.alloc ?_ _) | (with_reducible assumption) | ((with_reducible refine Only.setCell ?_ ?_ _); rotate_left; exact .inl rfl) | (with_reducible exact Only.ofExt (by assumption)) | ((with_reducible refine Only.setCells ?_ _ _ ?_); exact .inl rfl))))⟩
            case measure => simp [intOf]; omega
          · obtain rfl : k = 8 := by omega
            go_wp2
            go_ret
            have ho := (okPut_8 M).trans hY.out
            refine ⟨by rw [ho]; rfl, ?_, hO.out⟩
            rw [putL_yes ho]
            exact Caps.congr hF.out (fun i hi => by unfold mixL; rw [if_pos hi])
  · have h8' : ¬ (n : Int) = 8 := by omega
    clear h
    go_enter Try.func11, Try.ntmps11
    go_wp2
    go_ret
    refine ⟨by rw [okPut_n M h8]; rfl, ?_, Only.ofExt (by repeat (first | (with_reducible exact Ext.refl _) | (with_reducible refine Ext.undrew ?_) | (with_reducible refine Ext.grow ?_ _) | (with_reducible refine Ext.drew ?_) | (with_reducible refine Ext.drewN ?_ _) | (with_reducible refine Ext.alloc ?_ _) | (with_reducible assumption) | ((with_reducible refine Ext.setCell ?_ ?_ _); rotate_left; (first | exact Nat.le_refl _ | ((try dsimp only); (try simp only [World.size_alloc, grow_size, World.size_setCell]); omega)))))⟩
    rw [putL_no (okPut_n M h8)]
    exact H.out


end Go.Proofs.Ytjepkdfiihgheaa
