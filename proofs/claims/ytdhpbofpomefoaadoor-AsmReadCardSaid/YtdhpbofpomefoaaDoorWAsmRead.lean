/- The walk of AsmRead. -/
import Derived.Test.YtdhpbofpomefoaaDoorAsmH0
import Derived.Test.YtdhpbofpomefoaaDoorAsmX
import Derived.Test.YtdhpbofpomefoaaDoorAsmY0
namespace Go.Proofs.YtdhpbofpomefoaaDoor
set_option linter.unusedSimpArgs false
set_option linter.unusedVariables false
open Go.RowKit

open Go.Deep Go.RowKit
namespace asmRead
set_option linter.unusedSimpArgs false
set_option linter.unusedVariables false
set_option maxRecDepth 100000 in
set_option maxHeartbeats 8000000 in
theorem walk (A0 : Option Addr) (cap0 : Nat) (zs0 : List In) (a1 : ByteArray) (a2 : Int) (w : World) (wl0 : zs0.length ≤ cap0 ∧ cap0 ≤ maxLen) (hs0 : SlAtN w A0 4 (zs0.map insC)) (w1 : a1.size ≤ maxLen) (w2 : (Lit.int .u8 a2).wf = true) (hTab : Tb w) :
    Calls Tryd.prog 6 #[.slice A0 zs0.length cap0, .string a1, .int .u8 a2] w fun e w' => e = .returned (.bool true) ∧ Ext w w' := by
  have HT := hid hTab
  have HA : Hid (RdF insC w A0 zs0) := hid (rdF_of insC_len (by decide) hs0)
  obtain ⟨a2l, a2u⟩ := wfu8' w2
  clear hTab hs0 w1 w2 wl0
  have HHD : Hid (∀ W, Ext w W → Calls Tryd.prog 9 #[] W fun e w' => e = .returned (.bool true) ∧ Ext W w') := hid (fun W hx => head_ W (HT.out.ext hx))
  by_cases hl : zs0.length ≤ 200
  · have hl1 : ¬ (200 : Int) < (zs0.length : Int) := by omega
    by_cases hs : a1.size ≤ 900
    · have hs1 : ¬ (900 : Int) < (a1.size : Int) := by omega
      go_enter Tryd.func6, Tryd.ntmps6
      have HX : Hid (Ext w w) := hid (Ext.refl _)
      go_wp2_with fail
      refine Calls.mono (HHD.out _ (Ext.trans HX.out (by repeat (first | (with_reducible exact Ext.refl _) | (with_reducible refine Ext.undrew ?_) | (with_reducible refine Ext.grow ?_ _) | (with_reducible refine Ext.drew ?_) | (with_reducible refine Ext.drewN ?_ _) | (with_reducible refine Ext.alloc ?_ _) | (with_reducible assumption) | ((with_reducible refine Ext.setCell ?_ ?_ _); rotate_left; (first | exact Nat.le_refl _ | ((try dsimp only); (try simp only [World.size_alloc, grow_size, World.size_setCell]); omega))))))) ?_
      rintro e W1 ⟨rfl, hy⟩
      replace HX := hid (Ext.trans (Ext.trans HX.out (by repeat (first | (with_reducible exact Ext.refl _) | (with_reducible refine Ext.undrew ?_) | (with_reducible refine Ext.grow ?_ _) | (with_reducible refine Ext.drew ?_) | (with_reducible refine Ext.drewN ?_ _) | (with_reducible refine Ext.alloc ?_ _) | (with_reducible assumption) | ((with_reducible refine Ext.setCell ?_ ?_ _); rotate_left; (first | exact Nat.le_refl _ | ((try dsimp only); (try simp only [World.size_alloc, grow_size, World.size_setCell]); omega)))))) hy)
      clear hy
      clear HHD
      go_wp2
      go_loopw [8, 9] (fun v i wr => ∃ k : Nat, k ≤ zs0.length ∧ i = .int .i64 k ∧ Hid (ownsAt wr w.heap.size 23 4 v ((zs0.take k).filter (·.ok)).length (rowF insC ((zs0.take k).filter (·.ok)))) ∧ Hid (Ext w wr)) (fun _ i _ => zs0.length - (intOf i).toNat)
      case atStart => exact ⟨0, Nat.zero_le _, rfl, hid (ownsAt_nil _ _ _ _), hid (Ext.trans HX.out (by repeat (first | (with_reducible exact Ext.refl _) | (with_reducible refine Ext.undrew ?_) | (with_reducible refine Ext.grow ?_ _) | (with_reducible refine Ext.drew ?_) | (with_reducible refine Ext.drewN ?_ _) | (with_reducible refine Ext.alloc ?_ _) | (with_reducible assumption) | ((with_reducible refine Ext.setCell ?_ ?_ _); rotate_left; (first | exact Nat.le_refl _ | ((try dsimp only); (try simp only [World.size_alloc, grow_size, World.size_setCell]); omega))))))⟩
      case round =>
        clear HX
        obtain ⟨k, hk, rfl, HO, HX⟩ := hrel
        by_cases hlt : k < zs0.length
        · skip
          have hlL : k < zs0.length := hlt
          obtain ⟨z, hz⟩ : ∃ z, zs0[k]'hlL = z := ⟨_, rfl⟩
          obtain ⟨b1, o1, rfl, hb1, r1⟩ := (HA.out.ext HX.out).elem insC_len hlL z hz
          have c0 : World.cell? wr ⟨b1, o1 + k * 4, none⟩ = some (.int .i64 z.op) := r1 0 _ rfl
          have c1 : World.cell? wr ⟨b1, o1 + k * 4 + 1, none⟩ = some (.int .i64 z.a) := r1 1 _ rfl
          have c2 : World.cell? wr ⟨b1, o1 + k * 4 + 2, none⟩ = some (.int .i64 z.b) := r1 2 _ rfl
          have c3 : World.cell? wr ⟨b1, o1 + k * 4 + 3, none⟩ = some (.int .i64 z.c) := r1 3 _ rfl
          have HTK : Hid (((zs0.take (k + 1)).filter (·.ok)) = ((zs0.take k).filter (·.ok)) ++ if z.ok = true then [z] else []) := hid (by
            rw [List.take_succ_eq_append_getElem hlL, List.filter_append, hz]
            congr 1
            simp only [List.filter_cons, List.filter_nil])
          clear r1 hz
          have hk0 : (0 : Int) ≤ (k : Int) := by omega
          have hk1 : (k : Int) < (zs0.length : Int) := by omega
          obtain ⟨fk, hfk⟩ : ∃ f, ((zs0.take k).filter (·.ok)) = f := ⟨_, rfl⟩
          have hfl : fk.length ≤ 200 := by rw [← hfk]; have := List.length_filter_le (fun x : In => x.ok) (zs0.take k); rw [List.length_take] at this; omega
          rw [hfk] at HO HTK
          clear hfk
          obtain ⟨A, ca, rfl, hca, _⟩ := HO.out.shape
          cases hzo : z.ok with
          | false =>
            have HC : Hid (∀ W, Calls Tryd.prog 21 #[.agg #[.int .i64 z.op, .int .i64 z.a, .int .i64 z.b, .int .i64 z.c]] W fun e w' => e = .returned (.bool false) ∧ Ext W w') := hid (fun W => by have h := rright15 z.op z.a z.b z.c W; rw [show rightI z.op z.a z.b z.c = false from hzo] at h; exact h)
            have HTK2 : Hid (((zs0.take (k + 1)).filter (·.ok)) = fk) := hid (by rw [HTK.out, if_neg (by rw [hzo]; decide), List.append_nil])
            clear hzo
            go_wp2_with fail
            refine Calls.mono (HC.out _) ?_
            rintro e W2 ⟨rfl, hy⟩
            go_wp2
            go_roundw
            case rel => exact ⟨k + 1, by omega, by go_num, by rw [HTK2.out]; exact hid (HO.out.ext hy), hid (HX.out.trans hy)⟩
            case measure => simp [intOf]; omega
          | true =>
            have HC : Hid (∀ W, Calls Tryd.prog 21 #[.agg #[.int .i64 z.op, .int .i64 z.a, .int .i64 z.b, .int .i64 z.c]] W fun e w' => e = .returned (.bool true) ∧ Ext W w') := hid (fun W => by have h := rright15 z.op z.a z.b z.c W; rw [show rightI z.op z.a z.b z.c = true from hzo] at h; exact h)
            have HTK2 : Hid (((zs0.take (k + 1)).filter (·.ok)) = fk ++ [z]) := hid (by rw [HTK.out, if_pos hzo])
            clear hzo
            go_wp2_with fail
            refine Calls.mono (HC.out _) ?_
            rintro e W2 ⟨rfl, hy⟩
            have HY := hid hy
            have e0 := (hy.cells _ _ hb1).trans c0
            have e1 := (hy.cells _ _ hb1).trans c1
            have e2 := (hy.cells _ _ hb1).trans c2
            have e3 := (hy.cells _ _ hb1).trans c3
            have hb2 : b1 < W2.heap.size := Nat.lt_of_lt_of_le hb1 hy.size
            clear hy c0 c1 c2 c3 hb1
            go_wp2_with (first | (refine wpList_plain rfl fun K hK => ?_; refine wp_build1 30 23 _ rfl #[.int .i64 z.op, .int .i64 z.a, .int .i64 z.b, .int .i64 z.c] 4 rfl rfl (by omega) (by omega) Tryd.underlying30 (by kernel_rfl) (by kernel_rfl) ?_; refine hK _ _ ?_; clear hK K) | (at_builtin; refine wpList_plain rfl fun K hK => ?_; refine wp_app_row insC_len (by decide) insC_one Tryd.underlying30 info_insN _ _ rfl w.heap.size (.slice A fk.length ca) fk.length (rowF insC fk) rfl (HO.out.ext (HY.out.trans (Ext.alloc (Ext.refl _) _))) (some ⟨W2.heap.size, 0, none⟩) 1 1 [z] rfl rfl (rdF_ins (Row.new W2 #[.int .i64 z.op, .int .i64 z.a, .int .i64 z.b, .int .i64 z.c] _)) (by unfold maxLen; omega) (by omega) (by have := HY.out.size; have := HX.out.size; simp; omega) ?_; intro v7 W7 hown hgrow hat; obtain ⟨A7, c7, rfl, _, _⟩ := hown.shape; refine hK _ _ ?_; clear hK K))
            have HON := hid hown
            have HXN := hid (Ext.only ((HX.out.trans HY.out).trans (Ext.alloc (Ext.refl _) _)) (S := fun j => (Value.slice A fk.length ca).ownBlock = some j) (grownOnly hgrow fun g e => e) (fun j hj => (HO.out.lt j hj).1))
            clear hown hgrow hat
            go_roundw
            case rel => exact ⟨k + 1, by omega, by go_num, by rw [HTK2.out, List.length_append, rowF_snoc]; exact hid (by have e := HON.out; rw [rowF_one] at e; exact e), HXN⟩
            case measure => simp [intOf]; omega
        · obtain rfl : k = zs0.length := by omega
          have hk1 : ¬ (zs0.length : Int) < (zs0.length : Int) := by omega
          obtain ⟨r, hr⟩ : ∃ r, zs0.filter (·.ok) = r := ⟨_, rfl⟩
          have HRF : Hid (r = zs0.filter (·.ok)) := hid hr.symm
          obtain ⟨rn, hrn⟩ : ∃ n, r.length = n := ⟨_, rfl⟩
          have HRN := hid hrn
          have hrn2 : rn ≤ 200 := by rw [← hrn, ← hr]; have := List.length_filter_le (fun x : In => x.ok) zs0; omega
          rw [List.take_length] at HO
          rw [hr, hrn] at HO
          clear hr hrn
          obtain ⟨A, c, rfl, hcl, hcn⟩ := HO.out.shape
          obtain ⟨W1, hW1⟩ : ∃ z, z = wr := ⟨_, rfl⟩
          subst hW1
          obtain ⟨LN, hLN⟩ : ∃ z : ByteArray, (⟨(linesL zs0).toArray⟩ : ByteArray) = z := ⟨_, rfl⟩
          have HLN : Hid (∀ W, Ext w W → Calls Tryd.prog 18 #[.slice A0 zs0.length cap0] W fun e w' => e = .returned (.string LN) ∧ Ext W w') := hid (fun W hx => by have h := alines_ A0 zs0.length cap0 zs0 W rfl (HA.out.ext hx) (by omega) (HT.out.ext hx); rw [hLN] at h; exact h)
          have HRD : Hid (∀ W, Ext w W → Calls Tryd.prog 16 #[.string LN] W fun e w' => ∃ A c, e = .returned (.tuple #[.slice A rn c, .int .i64 (rn : Int), .bool true]) ∧ Hid (RdF insC w' A r) ∧ Ext W w') := hid (fun W hx => by
            have h := read_ (linesL zs0) (by have := linesL_len zs0; omega) W (HT.out.ext hx)
            rw [show readL valT (linesL zs0) = _ from read_lines good_A zs0, ← HRF.out, HRN.out, hLN] at h
            refine h.mono ?_
            rintro e w' ⟨v, rfl, HOO, HXX⟩
            simp only at HOO
            obtain ⟨A, c, rfl, _, _⟩ := HOO.out.shape
            exact ⟨A, c, rfl, hid (HOO.out.rdF HRN.out), HXX.out⟩)
          obtain ⟨pz, hpz⟩ : ∃ z, parseN valT a1.data.toList = z := ⟨_, rfl⟩
          obtain ⟨⟨zo, za, zb, zc⟩, zi⟩ := pz
          have HPZ := hid hpz
          obtain ⟨kk, hkk⟩ : ∃ k : Nat, a2 % ((rn : Int) + 1) = (k : Int) := ⟨(a2 % ((rn : Int) + 1)).toNat, by have := Int.emod_nonneg a2 (show (rn : Int) + 1 ≠ 0 by omega); omega⟩
          have hkl : kk ≤ rn := by have := Int.emod_lt_of_pos a2 (show (0 : Int) < (rn : Int) + 1 by omega); omega
          have hkt : a2.tmod ((rn : Int) + 1) = (kk : Int) := by rw [Int.tmod_eq_emod_of_nonneg a2l]; exact hkk
          have hkz : (((rn : Int) + 1) == 0) = false := by simpa using (fun e : (rn : Int) + 1 = 0 => absurd e (by omega))
          have hk30 : (0 : Int) ≤ (kk : Int) := by omega
          have hk31 : (kk : Int) ≤ (rn : Int) := by omega
          have hk32 : (rn : Int) ≤ (c : Int) := by omega
          have hk33 : (kk : Int) ≤ (c : Int) := by omega
          clear hLN hpz hkk
          go_wp2_with fail
          refine Calls.mono (HLN.out _ (Ext.trans HX.out (by repeat (first | (with_reducible exact Ext.refl _) | (with_reducible refine Ext.undrew ?_) | (with_reducible refine Ext.grow ?_ _) | (with_reducible refine Ext.drew ?_) | (with_reducible refine Ext.drewN ?_ _) | (with_reducible refine Ext.alloc ?_ _) | (with_reducible assumption) | ((with_reducible refine Ext.setCell ?_ ?_ _); rotate_left; (first | exact Nat.le_refl _ | ((try dsimp only); (try simp only [World.size_alloc, grow_size, World.size_setCell]); omega))))))) ?_
          rintro e W3 ⟨rfl, hy⟩
          replace HX := hid (Ext.trans (Ext.trans HX.out (by repeat (first | (with_reducible exact Ext.refl _) | (with_reducible refine Ext.undrew ?_) | (with_reducible refine Ext.grow ?_ _) | (with_reducible refine Ext.drew ?_) | (with_reducible refine Ext.drewN ?_ _) | (with_reducible refine Ext.alloc ?_ _) | (with_reducible assumption) | ((with_reducible refine Ext.setCell ?_ ?_ _); rotate_left; (first | exact Nat.le_refl _ | ((try dsimp only); (try simp only [World.size_alloc, grow_size, World.size_setCell]); omega)))))) hy)
          replace HO := hid ((HO.out.ext (by repeat (first | (with_reducible exact Ext.refl _) | (with_reducible refine Ext.undrew ?_) | (with_reducible refine Ext.grow ?_ _) | (with_reducible refine Ext.drew ?_) | (with_reducible refine Ext.drewN ?_ _) | (with_reducible refine Ext.alloc ?_ _) | (with_reducible assumption) | ((with_reducible refine Ext.setCell ?_ ?_ _); rotate_left; (first | exact Nat.le_refl _ | ((try dsimp only); (try simp only [World.size_alloc, grow_size, World.size_setCell]); omega)))))).ext hy)
          clear hy
          go_wp2_with fail
          refine Calls.mono (HRD.out _ (Ext.trans HX.out (by repeat (first | (with_reducible exact Ext.refl _) | (with_reducible refine Ext.undrew ?_) | (with_reducible refine Ext.grow ?_ _) | (with_reducible refine Ext.drew ?_) | (with_reducible refine Ext.drewN ?_ _) | (with_reducible refine Ext.alloc ?_ _) | (with_reducible assumption) | ((with_reducible refine Ext.setCell ?_ ?_ _); rotate_left; (first | exact Nat.le_refl _ | ((try dsimp only); (try simp only [World.size_alloc, grow_size, World.size_setCell]); omega))))))) ?_
          rintro e W4 ⟨A5, c5, rfl, HA5, hy⟩
          replace HX := hid (Ext.trans (Ext.trans HX.out (by repeat (first | (with_reducible exact Ext.refl _) | (with_reducible refine Ext.undrew ?_) | (with_reducible refine Ext.grow ?_ _) | (with_reducible refine Ext.drew ?_) | (with_reducible refine Ext.drewN ?_ _) | (with_reducible refine Ext.alloc ?_ _) | (with_reducible assumption) | ((with_reducible refine Ext.setCell ?_ ?_ _); rotate_left; (first | exact Nat.le_refl _ | ((try dsimp only); (try simp only [World.size_alloc, grow_size, World.size_setCell]); omega)))))) hy)
          replace HO := hid ((HO.out.ext (by repeat (first | (with_reducible exact Ext.refl _) | (with_reducible refine Ext.undrew ?_) | (with_reducible refine Ext.grow ?_ _) | (with_reducible refine Ext.drew ?_) | (with_reducible refine Ext.drewN ?_ _) | (with_reducible refine Ext.alloc ?_ _) | (with_reducible assumption) | ((with_reducible refine Ext.setCell ?_ ?_ _); rotate_left; (first | exact Nat.le_refl _ | ((try dsimp only); (try simp only [World.size_alloc, grow_size, World.size_setCell]); omega)))))).ext hy)
          clear hy
          go_wp2_with fail
          refine Calls.mono (same16_ A5 A rn c5 c r _ HRN.out (HA5.out.ext (by repeat (first | (with_reducible exact Ext.refl _) | (with_reducible refine Ext.undrew ?_) | (with_reducible refine Ext.grow ?_ _) | (with_reducible refine Ext.drew ?_) | (with_reducible refine Ext.drewN ?_ _) | (with_reducible refine Ext.alloc ?_ _) | (with_reducible assumption) | ((with_reducible refine Ext.setCell ?_ ?_ _); rotate_left; (first | exact Nat.le_refl _ | ((try dsimp only); (try simp only [World.size_alloc, grow_size, World.size_setCell]); omega)))))) ((HO.out.ext (by repeat (first | (with_reducible exact Ext.refl _) | (with_reducible refine Ext.undrew ?_) | (with_reducible refine Ext.grow ?_ _) | (with_reducible refine Ext.drew ?_) | (with_reducible refine Ext.drewN ?_ _) | (with_reducible refine Ext.alloc ?_ _) | (with_reducible assumption) | ((with_reducible refine Ext.setCell ?_ ?_ _); rotate_left; (first | exact Nat.le_refl _ | ((try dsimp only); (try simp only [World.size_alloc, grow_size, World.size_setCell]); omega)))))).rdF HRN.out) (by omega)) ?_
          rintro e W6 ⟨rfl, hy⟩
          replace HX := hid (Ext.trans (Ext.trans HX.out (by repeat (first | (with_reducible exact Ext.refl _) | (with_reducible refine Ext.undrew ?_) | (with_reducible refine Ext.grow ?_ _) | (with_reducible refine Ext.drew ?_) | (with_reducible refine Ext.drewN ?_ _) | (with_reducible refine Ext.alloc ?_ _) | (with_reducible assumption) | ((with_reducible refine Ext.setCell ?_ ?_ _); rotate_left; (first | exact Nat.le_refl _ | ((try dsimp only); (try simp only [World.size_alloc, grow_size, World.size_setCell]); omega)))))) hy)
          replace HO := hid ((HO.out.ext (by repeat (first | (with_reducible exact Ext.refl _) | (with_reducible refine Ext.undrew ?_) | (with_reducible refine Ext.grow ?_ _) | (with_reducible refine Ext.drew ?_) | (with_reducible refine Ext.drewN ?_ _) | (with_reducible refine Ext.alloc ?_ _) | (with_reducible assumption) | ((with_reducible refine Ext.setCell ?_ ?_ _); rotate_left; (first | exact Nat.le_refl _ | ((try dsimp only); (try simp only [World.size_alloc, grow_size, World.size_setCell]); omega)))))).ext hy)
          clear hy HA5 HLN HRD
          go_wp2
          go_loopw [13] (fun v wr => ∃ k : Nat, k ≤ a1.size ∧ v = .int .i64 k ∧ Hid (∀ (j : Nat) (h : j < a1.size), j < k → ¬ a1[j]'h = 10) ∧ Hid (Ext W6 wr)) (fun v _ => a1.size - (intOf v).toNat)
          case atStart => exact ⟨0, Nat.zero_le _, rfl, hid (fun j _ h => absurd h (Nat.not_lt_zero j)), hid (by repeat (first | (with_reducible exact Ext.refl _) | (with_reducible refine Ext.undrew ?_) | (with_reducible refine Ext.grow ?_ _) | (with_reducible refine Ext.drew ?_) | (with_reducible refine Ext.drewN ?_ _) | (with_reducible refine Ext.alloc ?_ _) | (with_reducible assumption) | ((with_reducible refine Ext.setCell ?_ ?_ _); rotate_left; (first | exact Nat.le_refl _ | ((try dsimp only); (try simp only [World.size_alloc, grow_size, World.size_setCell]); omega)))))⟩
          case round =>
            obtain ⟨k, hk, rfl, HNO, HX6⟩ := hrel
            have hk0 : (0 : Int) ≤ (k : Int) := by omega
            by_cases hlt : k < a1.size
            · have hlti : (k : Int) < (a1.size : Int) := by omega
              by_cases h10 : a1[k]'hlt = 10
              · have q0 : (((a1[k]'hlt).toNat : Int) == 10) = true := by rw [h10]; rfl
                have hx6 := HX.out.trans HX6.out
                go_wp2
                go_ret
                exact ⟨rfl, (by repeat (first | (with_reducible exact Ext.refl _) | (with_reducible refine Ext.undrew ?_) | (with_reducible refine Ext.grow ?_ _) | (with_reducible refine Ext.drew ?_) | (with_reducible refine Ext.drewN ?_ _) | (with_reducible refine Ext.alloc ?_ _) | (with_reducible assumption) | ((with_reducible refine Ext.setCell ?_ ?_ _); rotate_left; (first | exact Nat.le_refl _ | ((try dsimp only); (try simp only [World.size_alloc, grow_size, World.size_setCell]); omega)))))⟩
              · have q0 : (((a1[k]'hlt).toNat : Int) == 10) = false := by
                  have : ¬ (a1[k]'hlt).toNat = 10 := fun e => h10 (UInt8.toNat.inj e)
                  simpa using (fun e => this (by omega))
                have HN2 : Hid (∀ (j : Nat) (h : j < a1.size), j < k + 1 → ¬ a1[j]'h = 10) := hid (fun j h hj => by
                  by_cases e : j = k
                  · subst e; exact h10
                  · exact HNO.out j h (by omega))
                clear h10
                go_wp2
                go_roundw
                case rel => exact ⟨k + 1, by omega, by go_num, HN2, HX6⟩
                case measure => simp [intOf]; omega
            · obtain rfl : k = a1.size := by omega
              have hlti : ¬ (a1.size : Int) < (a1.size : Int) := by omega
              have HS10 : Hid ((10 : UInt8) ∉ a1.data.toList) := hid (fun h => by
                obtain ⟨j, hj, e⟩ := List.getElem_of_mem h
                have hj2 : j < a1.size := by simpa using hj
                exact HNO.out j hj2 hj2 (by rw [ba_at hj2]; exact e))
              clear HNO
              have hPR : Hid (∀ W, Ext w W → Calls Tryd.prog 10 #[.string a1] W fun e w' => e = .returned (.tuple #[.agg #[.int .i64 zo, .int .i64 za, .int .i64 zb, .int .i64 zc], .bool zi]) ∧ Ext W w') := hid (fun W hx => by have h := parse_ a1 W (HT.out.ext hx) (by omega); rw [HPZ.out] at h; exact h)
              go_wp2_with fail
              refine Calls.mono (hPR.out _ (HX.out.trans HX6.out)) ?_
              rintro e W7 ⟨rfl, hy⟩
              go_upto_region 20 with (fail)
              refine wp_gen (fun V => Hid (Ext W6 V)) (hid (HX6.out.trans (Ext.trans hy (by repeat (first | (with_reducible exact Ext.refl _) | (with_reducible refine Ext.undrew ?_) | (with_reducible refine Ext.grow ?_ _) | (with_reducible refine Ext.drew ?_) | (with_reducible refine Ext.drewN ?_ _) | (with_reducible refine Ext.alloc ?_ _) | (with_reducible assumption) | ((with_reducible refine Ext.setCell ?_ ?_ _); rotate_left; (first | exact Nat.le_refl _ | ((try dsimp only); (try simp only [World.size_alloc, grow_size, World.size_setCell]); omega)))))))) ?_
              clear hy HX6 hPR
              rintro W8 HX8
              replace HO := hid (HO.out.ext HX8.out)
              replace HX := hid (HX.out.trans HX8.out)
              clear HX8
              obtain ⟨LA, hLA⟩ : ∃ z : ByteArray, (⟨(linesL (r.take kk)).toArray⟩ : ByteArray) = z := ⟨_, rfl⟩
              obtain ⟨LB, hLB⟩ : ∃ z : ByteArray, (⟨(linesL (r.drop kk)).toArray⟩ : ByteArray) = z := ⟨_, rfl⟩
              have HLAe := hid hLA
              have HLBe := hid hLB
              have hla : LA.size ≤ 12200 := by
                have h1 := linesL_len (r.take kk)
                rw [List.length_take] at h1
                have h2 := HRN.out
                rw [← hLA]
                show (linesL (r.take kk)).toArray.size ≤ _
                rw [List.size_toArray]
                omega
              have hlb : LB.size ≤ 12200 := by
                have h1 := linesL_len (r.drop kk)
                rw [List.length_drop] at h1
                have h2 := HRN.out
                rw [← hLB]
                show (linesL (r.drop kk)).toArray.size ≤ _
                rw [List.size_toArray]
                omega
              obtain ⟨X1, hX1⟩ : ∃ z : ByteArray, LA ++ a1 = z := ⟨_, rfl⟩
              obtain ⟨X2, hX2⟩ : ∃ z : ByteArray, X1 ++ ⟨#[10]⟩ = z := ⟨_, rfl⟩
              obtain ⟨X3, hX3⟩ : ∃ z : ByteArray, X2 ++ LB = z := ⟨_, rfl⟩
              have hx1 : X1.size = LA.size + a1.size := by rw [← hX1, ByteArray.size_append]
              have hx2 : X2.size = LA.size + a1.size + 1 := by rw [← hX2, ByteArray.size_append, hx1]; rfl
              have hx3 : X3.size ≤ 100000 := by rw [← hX3, ByteArray.size_append, hx2]; omega
              have hX : X3.data.toList = linesL (r.take kk) ++ (a1.data.toList ++ 10 :: linesL (r.drop kk)) := by
                rw [← hX3, ← hX2, ← hX1, ← hLA, ← hLB]
                simp [ByteArray.data_append]
              have hfr : ∀ x ∈ r, x.ok = true := fun x hx => by rw [HRF.out] at hx; exact (List.mem_filter.1 hx).2
              have hft : (r.take kk).filter (·.ok) = r.take kk := List.filter_eq_self.2 fun x hx => hfr x (List.mem_of_mem_take hx)
              have hfd : (r.drop kk).filter (·.ok) = r.drop kk := List.filter_eq_self.2 fun x hx => hfr x (List.mem_of_mem_drop hx)
              have hrm := read_more good_A (r.take kk) (r.drop kk) HS10.out
              rw [← hX, hft, hfd] at hrm
              cases zi with
              | true =>
                have hp2 : parseN (fun w => valA (trimR w)) a1.data.toList = (⟨zo, za, zb, zc⟩, true) := HPZ.out
                rw [hp2] at hrm
                simp only at hrm
                have hlen : (r.take kk ++ [(⟨zo, za, zb, zc⟩ : In)] ++ r.drop kk).length = rn + 1 := by
                  rw [List.length_append, List.length_append, List.length_take, List.length_drop, HRN.out]
                  simp
                  omega
                rw [hlen] at hrm
                have HRB : Hid (∀ W, Ext W8 W → Calls Tryd.prog 16 #[.string X3] W fun e w' => ∃ A c, e = .returned (.tuple #[.slice A (rn + 1) c, .int .i64 ((rn : Int) + 1), .bool true]) ∧ Hid (RdF insC w' A (r.take kk ++ [(⟨zo, za, zb, zc⟩ : In)] ++ r.drop kk)) ∧ Ext W w') := hid (fun W hx => by
                  have h := read_ X3.data.toList (by have : X3.data.toList.length = X3.size := by simp
                                                     omega) W (HT.out.ext (HX.out.trans hx))
                  rw [show readL valT X3.data.toList = _ from hrm, ba_eta] at h
                  refine h.mono ?_
                  rintro e w' ⟨v, rfl, HOO, HXX⟩
                  simp only at HOO
                  rw [hlen] at HOO
                  obtain ⟨A, c, rfl, _, _⟩ := HOO.out.shape
                  exact ⟨A, c, by simp, hid (HOO.out.rdF hlen), HXX.out⟩)
                clear hrm hp2 hlen hft hfd hfr hX hLA hLB
                rcases A with _ | ⟨g, o, sp⟩
                · obtain rfl : c = 0 := hcn rfl
                  obtain rfl : rn = 0 := by omega
                  obtain rfl : kk = 0 := by omega
                  have hr0 : r = [] := List.eq_nil_of_length_eq_zero HRN.out
                  have hLL : LA = LB := by rw [← HLAe.out, ← HLBe.out, hr0]; rfl
                  subst hLL
                  clear hr0
                  have HLA : Hid (∀ W, Ext W8 W → Calls Tryd.prog 18 #[.slice none 0 0] W fun e w' => e = .returned (.string LA) ∧ Ext W w') := hid (fun W hx => by have h := alines_ none 0 0 (r.take 0) W (by have h7 := HRN.out; rw [List.length_take]; omega) (((HO.out.rdF HRN.out).take insC_len 0).ext hx) (by omega) (HT.out.ext (HX.out.trans hx)); rw [HLAe.out] at h; exact h)
                  refine wp_region_step (.rd 0 (.rd 1 (.rd 2 (.rd 4 (.rd 7 (.rd 8 (.rd 9 (.ac 3 (.rd 5 (.rd 6 (.ac 10 (.rd 11 (.ac 12 (.rd 13 (.rd 14 (.rd 15 (.rd 16 (.rd 17 (.rd 18 (.rd 19 .done)))))))))))))))))))) (by kernel_rfl) (by kernel_rfl) (fun _ _ d _ _ h => by cases d <;> exact h) (by simp only [Ord.map, nthOp, List.append]; rfl) ?_
                  intro d0
                  repeat' (first | (refine step_read (by rfl) (fun K hK => ?_); go_big_quiet_op; refine hK _ ?_; clear hK K) | (refine step_act (by rfl) (fun K hK => ?_); go_wp2_with (first | (go_at_call 18; with_reducible refine Calls.mono (HLA.out _ (by repeat (first | (with_reducible exact Ext.refl _) | (with_reducible refine Ext.undrew ?_) | (with_reducible refine Ext.grow ?_ _) | (with_reducible refine Ext.drew ?_) | (with_reducible refine Ext.drewN ?_ _) | (with_reducible refine Ext.alloc ?_ _) | (with_reducible assumption) | ((with_reducible refine Ext.setCell ?_ ?_ _); rotate_left; (first | exact Nat.le_refl _ | ((try dsimp only); (try simp only [World.size_alloc, grow_size, World.size_setCell]); omega)))))) ?_; rintro e w1 ⟨rfl, hy⟩; obtain ⟨da, rfl⟩ := hy.grown; clear hy) | (go_at_call 16; with_reducible refine Calls.mono (HRB.out _ (by repeat (first | (with_reducible exact Ext.refl _) | (with_reducible refine Ext.undrew ?_) | (with_reducible refine Ext.grow ?_ _) | (with_reducible refine Ext.drew ?_) | (with_reducible refine Ext.drewN ?_ _) | (with_reducible refine Ext.alloc ?_ _) | (with_reducible assumption) | ((with_reducible refine Ext.setCell ?_ ?_ _); rotate_left; (first | exact Nat.le_refl _ | ((try dsimp only); (try simp only [World.size_alloc, grow_size, World.size_setCell]); omega)))))) ?_; rintro e w1 ⟨A9, c9, rfl, HA9, hy⟩; obtain ⟨d9, rfl⟩ := hy.grown; clear hy HA9)); refine ⟨_, (by repeat (first | (with_reducible exact Ext.refl _) | (with_reducible refine Ext.undrew ?_) | (with_reducible refine Ext.grow ?_ _) | (with_reducible refine Ext.drew ?_) | (with_reducible refine Ext.drewN ?_ _) | (with_reducible refine Ext.alloc ?_ _) | (with_reducible assumption) | ((with_reducible refine Ext.setCell ?_ ?_ _); rotate_left; (first | exact Nat.le_refl _ | ((try dsimp only); (try simp only [World.size_alloc, grow_size, World.size_setCell]); omega))))), Ext.refl _, ?_⟩) | refine step_br ?_ ?_)
                  all_goals refine step_nil ?_
                  have HX9 : Hid (Ext W8 _) := hid (by repeat (first | (with_reducible exact Ext.refl _) | (with_reducible refine Ext.undrew ?_) | (with_reducible refine Ext.grow ?_ _) | (with_reducible refine Ext.drew ?_) | (with_reducible refine Ext.drewN ?_ _) | (with_reducible refine Ext.alloc ?_ _) | (with_reducible assumption) | ((with_reducible refine Ext.setCell ?_ ?_ _); rotate_left; (first | exact Nat.le_refl _ | ((try dsimp only); (try simp only [World.size_alloc, grow_size, World.size_setCell]); omega)))))
                  go_wp2
                  go_ret
                  exact ⟨rfl, Ext.trans HX.out (by repeat (first | (with_reducible exact Ext.refl _) | (with_reducible refine Ext.undrew ?_) | (with_reducible refine Ext.grow ?_ _) | (with_reducible refine Ext.drew ?_) | (with_reducible refine Ext.drewN ?_ _) | (with_reducible refine Ext.alloc ?_ _) | (with_reducible assumption) | ((with_reducible refine Ext.setCell ?_ ?_ _); rotate_left; (first | exact Nat.le_refl _ | ((try dsimp only); (try simp only [World.size_alloc, grow_size, World.size_setCell]); omega)))))⟩
                · obtain ⟨rfl⟩ : sp = none := by
                    rcases HO.out.2 with ⟨h, _⟩ | ⟨g', o', cp, cur, h, _⟩
                    · cases h
                    · cases h; rfl
                  by_cases hck : c = kk
                  · have h8 : kk = c := hck.symm
                    subst h8
                    have h9 : kk = rn := by omega
                    subst h9
                    have HLA : Hid (∀ W, Ext W8 W → Calls Tryd.prog 18 #[.slice (some ⟨g, o, none⟩) kk kk] W fun e w' => e = .returned (.string LA) ∧ Ext W w') := hid (fun W hx => by have h := alines_ (some ⟨g, o, none⟩) kk kk (r.take kk) W (by have h7 := HRN.out; rw [List.length_take]; omega) (((HO.out.rdF HRN.out).take insC_len kk).ext hx) (by omega) (HT.out.ext (HX.out.trans hx)); rw [HLAe.out] at h; exact h)
                    have HLB : Hid (∀ W, Ext W8 W → Calls Tryd.prog 18 #[.slice (some ⟨g, o, none⟩) 0 0] W fun e w' => e = .returned (.string LB) ∧ Ext W w') := hid (fun W hx => by have h := alines_ (some ⟨g, o, none⟩) 0 0 (r.drop kk) W (by have h7 := HRN.out; rw [List.length_drop]; omega) (RdF.ext (by rw [List.drop_of_length_le (by have h7 := HRN.out; omega)]; exact RdF.nil _ _) hx) (by omega) (HT.out.ext (HX.out.trans hx)); rw [HLBe.out] at h; exact h)
                    refine wp_region_step (.rd 0 (.rd 1 (.rd 2 (.rd 4 (.rd 7 (.rd 8 (.rd 9 (.ac 3 (.rd 5 (.rd 6 (.ac 10 (.rd 11 (.ac 12 (.rd 13 (.rd 14 (.rd 15 (.rd 16 (.rd 17 (.rd 18 (.rd 19 .done)))))))))))))))))))) (by kernel_rfl) (by kernel_rfl) (fun _ _ d _ _ h => by cases d <;> exact h) (by simp only [Ord.map, nthOp, List.append]; rfl) ?_
                    intro d0
                    repeat' (first | (refine step_read (by rfl) (fun K hK => ?_); go_big_quiet_op; refine hK _ ?_; clear hK K) | (refine step_act (by rfl) (fun K hK => ?_); go_wp2_with (first | (go_at_call 18; with_reducible refine Calls.mono (HLA.out _ (by repeat (first | (with_reducible exact Ext.refl _) | (with_reducible refine Ext.undrew ?_) | (with_reducible refine Ext.grow ?_ _) | (with_reducible refine Ext.drew ?_) | (with_reducible refine Ext.drewN ?_ _) | (with_reducible refine Ext.alloc ?_ _) | (with_reducible assumption) | ((with_reducible refine Ext.setCell ?_ ?_ _); rotate_left; (first | exact Nat.le_refl _ | ((try dsimp only); (try simp only [World.size_alloc, grow_size, World.size_setCell]); omega)))))) ?_; rintro e w1 ⟨rfl, hy⟩; obtain ⟨da, rfl⟩ := hy.grown; clear hy) | (go_at_call 18; with_reducible refine Calls.mono (HLB.out _ (by repeat (first | (with_reducible exact Ext.refl _) | (with_reducible refine Ext.undrew ?_) | (with_reducible refine Ext.grow ?_ _) | (with_reducible refine Ext.drew ?_) | (with_reducible refine Ext.drewN ?_ _) | (with_reducible refine Ext.alloc ?_ _) | (with_reducible assumption) | ((with_reducible refine Ext.setCell ?_ ?_ _); rotate_left; (first | exact Nat.le_refl _ | ((try dsimp only); (try simp only [World.size_alloc, grow_size, World.size_setCell]); omega)))))) ?_; rintro e w1 ⟨rfl, hy⟩; obtain ⟨db, rfl⟩ := hy.grown; clear hy) | (go_at_call 16; with_reducible refine Calls.mono (HRB.out _ (by repeat (first | (with_reducible exact Ext.refl _) | (with_reducible refine Ext.undrew ?_) | (with_reducible refine Ext.grow ?_ _) | (with_reducible refine Ext.drew ?_) | (with_reducible refine Ext.drewN ?_ _) | (with_reducible refine Ext.alloc ?_ _) | (with_reducible assumption) | ((with_reducible refine Ext.setCell ?_ ?_ _); rotate_left; (first | exact Nat.le_refl _ | ((try dsimp only); (try simp only [World.size_alloc, grow_size, World.size_setCell]); omega)))))) ?_; rintro e w1 ⟨A9, c9, rfl, HA9, hy⟩; obtain ⟨d9, rfl⟩ := hy.grown; clear hy HA9)); refine ⟨_, (by repeat (first | (with_reducible exact Ext.refl _) | (with_reducible refine Ext.undrew ?_) | (with_reducible refine Ext.grow ?_ _) | (with_reducible refine Ext.drew ?_) | (with_reducible refine Ext.drewN ?_ _) | (with_reducible refine Ext.alloc ?_ _) | (with_reducible assumption) | ((with_reducible refine Ext.setCell ?_ ?_ _); rotate_left; (first | exact Nat.le_refl _ | ((try dsimp only); (try simp only [World.size_alloc, grow_size, World.size_setCell]); omega))))), Ext.refl _, ?_⟩) | refine step_br ?_ ?_)
                    all_goals refine step_nil ?_
                    have HX9 : Hid (Ext W8 _) := hid (by repeat (first | (with_reducible exact Ext.refl _) | (with_reducible refine Ext.undrew ?_) | (with_reducible refine Ext.grow ?_ _) | (with_reducible refine Ext.drew ?_) | (with_reducible refine Ext.drewN ?_ _) | (with_reducible refine Ext.alloc ?_ _) | (with_reducible assumption) | ((with_reducible refine Ext.setCell ?_ ?_ _); rotate_left; (first | exact Nat.le_refl _ | ((try dsimp only); (try simp only [World.size_alloc, grow_size, World.size_setCell]); omega)))))
                    go_wp2
                    go_ret
                    exact ⟨rfl, Ext.trans HX.out (by repeat (first | (with_reducible exact Ext.refl _) | (with_reducible refine Ext.undrew ?_) | (with_reducible refine Ext.grow ?_ _) | (with_reducible refine Ext.drew ?_) | (with_reducible refine Ext.drewN ?_ _) | (with_reducible refine Ext.alloc ?_ _) | (with_reducible assumption) | ((with_reducible refine Ext.setCell ?_ ?_ _); rotate_left; (first | exact Nat.le_refl _ | ((try dsimp only); (try simp only [World.size_alloc, grow_size, World.size_setCell]); omega)))))⟩
                  · have hck1 : ¬ (c : Int) = (kk : Int) := by omega
                    have HLA : Hid (∀ W, Ext W8 W → Calls Tryd.prog 18 #[.slice (some ⟨g, o, none⟩) kk c] W fun e w' => e = .returned (.string LA) ∧ Ext W w') := hid (fun W hx => by have h := alines_ (some ⟨g, o, none⟩) kk c (r.take kk) W (by have h7 := HRN.out; rw [List.length_take]; omega) (((HO.out.rdF HRN.out).take insC_len kk).ext hx) (by omega) (HT.out.ext (HX.out.trans hx)); rw [HLAe.out] at h; exact h)
                    have HLB : Hid (∀ W, Ext W8 W → Calls Tryd.prog 18 #[.slice (some ⟨g, o + kk * 4, none⟩) (rn - kk) (c - kk)] W fun e w' => e = .returned (.string LB) ∧ Ext W w') := hid (fun W hx => by have h := alines_ (some ⟨g, o + kk * 4, none⟩) (rn - kk) (c - kk) (r.drop kk) W (by have h7 := HRN.out; rw [List.length_drop]; omega) (RdF.ext ((HO.out.rdF HRN.out).drop insC_len kk) hx) (by omega) (HT.out.ext (HX.out.trans hx)); rw [HLBe.out] at h; exact h)
                    refine wp_region_step (.rd 0 (.rd 1 (.rd 2 (.rd 4 (.rd 7 (.rd 8 (.rd 9 (.ac 3 (.rd 5 (.rd 6 (.ac 10 (.rd 11 (.ac 12 (.rd 13 (.rd 14 (.rd 15 (.rd 16 (.rd 17 (.rd 18 (.rd 19 .done)))))))))))))))))))) (by kernel_rfl) (by kernel_rfl) (fun _ _ d _ _ h => by cases d <;> exact h) (by simp only [Ord.map, nthOp, List.append]; rfl) ?_
                    intro d0
                    repeat' (first | (refine step_read (by rfl) (fun K hK => ?_); go_big_quiet_op; refine hK _ ?_; clear hK K) | (refine step_act (by rfl) (fun K hK => ?_); go_wp2_with (first | (go_at_call 18; with_reducible refine Calls.mono (HLA.out _ (by repeat (first | (with_reducible exact Ext.refl _) | (with_reducible refine Ext.undrew ?_) | (with_reducible refine Ext.grow ?_ _) | (with_reducible refine Ext.drew ?_) | (with_reducible refine Ext.drewN ?_ _) | (with_reducible refine Ext.alloc ?_ _) | (with_reducible assumption) | ((with_reducible refine Ext.setCell ?_ ?_ _); rotate_left; (first | exact Nat.le_refl _ | ((try dsimp only); (try simp only [World.size_alloc, grow_size, World.size_setCell]); omega)))))) ?_; rintro e w1 ⟨rfl, hy⟩; obtain ⟨da, rfl⟩ := hy.grown; clear hy) | (go_at_call 18; with_reducible refine Calls.mono (HLB.out _ (by repeat (first | (with_reducible exact Ext.refl _) | (with_reducible refine Ext.undrew ?_) | (with_reducible refine Ext.grow ?_ _) | (with_reducible refine Ext.drew ?_) | (with_reducible refine Ext.drewN ?_ _) | (with_reducible refine Ext.alloc ?_ _) | (with_reducible assumption) | ((with_reducible refine Ext.setCell ?_ ?_ _); rotate_left; (first | exact Nat.le_refl _ | ((try dsimp only); (try simp only [World.size_alloc, grow_size, World.size_setCell]); omega)))))) ?_; rintro e w1 ⟨rfl, hy⟩; obtain ⟨db, rfl⟩ := hy.grown; clear hy) | (go_at_call 16; with_reducible refine Calls.mono (HRB.out _ (by repeat (first | (with_reducible exact Ext.refl _) | (with_reducible refine Ext.undrew ?_) | (with_reducible refine Ext.grow ?_ _) | (with_reducible refine Ext.drew ?_) | (with_reducible refine Ext.drewN ?_ _) | (with_reducible refine Ext.alloc ?_ _) | (with_reducible assumption) | ((with_reducible refine Ext.setCell ?_ ?_ _); rotate_left; (first | exact Nat.le_refl _ | ((try dsimp only); (try simp only [World.size_alloc, grow_size, World.size_setCell]); omega)))))) ?_; rintro e w1 ⟨A9, c9, rfl, HA9, hy⟩; obtain ⟨d9, rfl⟩ := hy.grown; clear hy HA9)); refine ⟨_, (by repeat (first | (with_reducible exact Ext.refl _) | (with_reducible refine Ext.undrew ?_) | (with_reducible refine Ext.grow ?_ _) | (with_reducible refine Ext.drew ?_) | (with_reducible refine Ext.drewN ?_ _) | (with_reducible refine Ext.alloc ?_ _) | (with_reducible assumption) | ((with_reducible refine Ext.setCell ?_ ?_ _); rotate_left; (first | exact Nat.le_refl _ | ((try dsimp only); (try simp only [World.size_alloc, grow_size, World.size_setCell]); omega))))), Ext.refl _, ?_⟩) | refine step_br ?_ ?_)
                    all_goals refine step_nil ?_
                    have HX9 : Hid (Ext W8 _) := hid (by repeat (first | (with_reducible exact Ext.refl _) | (with_reducible refine Ext.undrew ?_) | (with_reducible refine Ext.grow ?_ _) | (with_reducible refine Ext.drew ?_) | (with_reducible refine Ext.drewN ?_ _) | (with_reducible refine Ext.alloc ?_ _) | (with_reducible assumption) | ((with_reducible refine Ext.setCell ?_ ?_ _); rotate_left; (first | exact Nat.le_refl _ | ((try dsimp only); (try simp only [World.size_alloc, grow_size, World.size_setCell]); omega)))))
                    go_wp2
                    go_ret
                    exact ⟨rfl, Ext.trans HX.out (by repeat (first | (with_reducible exact Ext.refl _) | (with_reducible refine Ext.undrew ?_) | (with_reducible refine Ext.grow ?_ _) | (with_reducible refine Ext.drew ?_) | (with_reducible refine Ext.drewN ?_ _) | (with_reducible refine Ext.alloc ?_ _) | (with_reducible assumption) | ((with_reducible refine Ext.setCell ?_ ?_ _); rotate_left; (first | exact Nat.le_refl _ | ((try dsimp only); (try simp only [World.size_alloc, grow_size, World.size_setCell]); omega)))))⟩
              | false =>
                have hp2 : parseN (fun w => valA (trimR w)) a1.data.toList = (⟨zo, za, zb, zc⟩, false) := HPZ.out
                rw [hp2] at hrm
                simp only at hrm
                have hlen : (r.take kk).length = kk := by
                  rw [List.length_take, HRN.out]
                  omega
                rw [hlen] at hrm
                have HRB : Hid (∀ W, Ext W8 W → Calls Tryd.prog 16 #[.string X3] W fun e w' => ∃ A c, e = .returned (.tuple #[.slice A 0 c, .int .i64 (kk : Int), .bool false]) ∧ Hid (RdF insC w' A []) ∧ Ext W w') := hid (fun W hx => by
                  have h := read_ X3.data.toList (by have : X3.data.toList.length = X3.size := by simp
                                                     omega) W (HT.out.ext (HX.out.trans hx))
                  rw [show readL valT X3.data.toList = _ from hrm, ba_eta] at h
                  refine h.mono ?_
                  rintro e w' ⟨v, rfl, HOO, HXX⟩
                  obtain ⟨A, c, rfl, _, _⟩ := HOO.out.shape
                  exact ⟨A, c, rfl, hid (RdF.nil _ _), HXX.out⟩)
                clear hrm hp2 hlen hft hfd hfr hX hLA hLB
                rcases A with _ | ⟨g, o, sp⟩
                · obtain rfl : c = 0 := hcn rfl
                  obtain rfl : rn = 0 := by omega
                  obtain rfl : kk = 0 := by omega
                  have hr0 : r = [] := List.eq_nil_of_length_eq_zero HRN.out
                  have hLL : LA = LB := by rw [← HLAe.out, ← HLBe.out, hr0]; rfl
                  subst hLL
                  clear hr0
                  have HLA : Hid (∀ W, Ext W8 W → Calls Tryd.prog 18 #[.slice none 0 0] W fun e w' => e = .returned (.string LA) ∧ Ext W w') := hid (fun W hx => by have h := alines_ none 0 0 (r.take 0) W (by have h7 := HRN.out; rw [List.length_take]; omega) (((HO.out.rdF HRN.out).take insC_len 0).ext hx) (by omega) (HT.out.ext (HX.out.trans hx)); rw [HLAe.out] at h; exact h)
                  refine wp_region_step (.rd 0 (.rd 1 (.rd 2 (.rd 4 (.rd 7 (.rd 8 (.rd 9 (.ac 3 (.rd 5 (.rd 6 (.ac 10 (.rd 11 (.ac 12 (.rd 13 (.rd 14 (.rd 15 (.rd 16 (.rd 17 (.rd 18 (.rd 19 .done)))))))))))))))))))) (by kernel_rfl) (by kernel_rfl) (fun _ _ d _ _ h => by cases d <;> exact h) (by simp only [Ord.map, nthOp, List.append]; rfl) ?_
                  intro d0
                  repeat' (first | (refine step_read (by rfl) (fun K hK => ?_); go_big_quiet_op; refine hK _ ?_; clear hK K) | (refine step_act (by rfl) (fun K hK => ?_); go_wp2_with (first | (go_at_call 18; with_reducible refine Calls.mono (HLA.out _ (by repeat (first | (with_reducible exact Ext.refl _) | (with_reducible refine Ext.undrew ?_) | (with_reducible refine Ext.grow ?_ _) | (with_reducible refine Ext.drew ?_) | (with_reducible refine Ext.drewN ?_ _) | (with_reducible refine Ext.alloc ?_ _) | (with_reducible assumption) | ((with_reducible refine Ext.setCell ?_ ?_ _); rotate_left; (first | exact Nat.le_refl _ | ((try dsimp only); (try simp only [World.size_alloc, grow_size, World.size_setCell]); omega)))))) ?_; rintro e w1 ⟨rfl, hy⟩; obtain ⟨da, rfl⟩ := hy.grown; clear hy) | (go_at_call 16; with_reducible refine Calls.mono (HRB.out _ (by repeat (first | (with_reducible exact Ext.refl _) | (with_reducible refine Ext.undrew ?_) | (with_reducible refine Ext.grow ?_ _) | (with_reducible refine Ext.drew ?_) | (with_reducible refine Ext.drewN ?_ _) | (with_reducible refine Ext.alloc ?_ _) | (with_reducible assumption) | ((with_reducible refine Ext.setCell ?_ ?_ _); rotate_left; (first | exact Nat.le_refl _ | ((try dsimp only); (try simp only [World.size_alloc, grow_size, World.size_setCell]); omega)))))) ?_; rintro e w1 ⟨A9, c9, rfl, HA9, hy⟩; obtain ⟨d9, rfl⟩ := hy.grown; clear hy HA9)); refine ⟨_, (by repeat (first | (with_reducible exact Ext.refl _) | (with_reducible refine Ext.undrew ?_) | (with_reducible refine Ext.grow ?_ _) | (with_reducible refine Ext.drew ?_) | (with_reducible refine Ext.drewN ?_ _) | (with_reducible refine Ext.alloc ?_ _) | (with_reducible assumption) | ((with_reducible refine Ext.setCell ?_ ?_ _); rotate_left; (first | exact Nat.le_refl _ | ((try dsimp only); (try simp only [World.size_alloc, grow_size, World.size_setCell]); omega))))), Ext.refl _, ?_⟩) | refine step_br ?_ ?_)
                  all_goals refine step_nil ?_
                  have HX9 : Hid (Ext W8 _) := hid (by repeat (first | (with_reducible exact Ext.refl _) | (with_reducible refine Ext.undrew ?_) | (with_reducible refine Ext.grow ?_ _) | (with_reducible refine Ext.drew ?_) | (with_reducible refine Ext.drewN ?_ _) | (with_reducible refine Ext.alloc ?_ _) | (with_reducible assumption) | ((with_reducible refine Ext.setCell ?_ ?_ _); rotate_left; (first | exact Nat.le_refl _ | ((try dsimp only); (try simp only [World.size_alloc, grow_size, World.size_setCell]); omega)))))
                  go_wp2
                  go_ret
                  exact ⟨rfl, Ext.trans HX.out (by repeat (first | (with_reducible exact Ext.refl _) | (with_reducible refine Ext.undrew ?_) | (with_reducible refine Ext.grow ?_ _) | (with_reducible refine Ext.drew ?_) | (with_reducible refine Ext.drewN ?_ _) | (with_reducible refine Ext.alloc ?_ _) | (with_reducible assumption) | ((with_reducible refine Ext.setCell ?_ ?_ _); rotate_left; (first | exact Nat.le_refl _ | ((try dsimp only); (try simp only [World.size_alloc, grow_size, World.size_setCell]); omega)))))⟩
                · obtain ⟨rfl⟩ : sp = none := by
                    rcases HO.out.2 with ⟨h, _⟩ | ⟨g', o', cp, cur, h, _⟩
                    · cases h
                    · cases h; rfl
                  by_cases hck : c = kk
                  · have h8 : kk = c := hck.symm
                    subst h8
                    have h9 : kk = rn := by omega
                    subst h9
                    have HLA : Hid (∀ W, Ext W8 W → Calls Tryd.prog 18 #[.slice (some ⟨g, o, none⟩) kk kk] W fun e w' => e = .returned (.string LA) ∧ Ext W w') := hid (fun W hx => by have h := alines_ (some ⟨g, o, none⟩) kk kk (r.take kk) W (by have h7 := HRN.out; rw [List.length_take]; omega) (((HO.out.rdF HRN.out).take insC_len kk).ext hx) (by omega) (HT.out.ext (HX.out.trans hx)); rw [HLAe.out] at h; exact h)
                    have HLB : Hid (∀ W, Ext W8 W → Calls Tryd.prog 18 #[.slice (some ⟨g, o, none⟩) 0 0] W fun e w' => e = .returned (.string LB) ∧ Ext W w') := hid (fun W hx => by have h := alines_ (some ⟨g, o, none⟩) 0 0 (r.drop kk) W (by have h7 := HRN.out; rw [List.length_drop]; omega) (RdF.ext (by rw [List.drop_of_length_le (by have h7 := HRN.out; omega)]; exact RdF.nil _ _) hx) (by omega) (HT.out.ext (HX.out.trans hx)); rw [HLBe.out] at h; exact h)
                    refine wp_region_step (.rd 0 (.rd 1 (.rd 2 (.rd 4 (.rd 7 (.rd 8 (.rd 9 (.ac 3 (.rd 5 (.rd 6 (.ac 10 (.rd 11 (.ac 12 (.rd 13 (.rd 14 (.rd 15 (.rd 16 (.rd 17 (.rd 18 (.rd 19 .done)))))))))))))))))))) (by kernel_rfl) (by kernel_rfl) (fun _ _ d _ _ h => by cases d <;> exact h) (by simp only [Ord.map, nthOp, List.append]; rfl) ?_
                    intro d0
                    repeat' (first | (refine step_read (by rfl) (fun K hK => ?_); go_big_quiet_op; refine hK _ ?_; clear hK K) | (refine step_act (by rfl) (fun K hK => ?_); go_wp2_with (first | (go_at_call 18; with_reducible refine Calls.mono (HLA.out _ (by repeat (first | (with_reducible exact Ext.refl _) | (with_reducible refine Ext.undrew ?_) | (with_reducible refine Ext.grow ?_ _) | (with_reducible refine Ext.drew ?_) | (with_reducible refine Ext.drewN ?_ _) | (with_reducible refine Ext.alloc ?_ _) | (with_reducible assumption) | ((with_reducible refine Ext.setCell ?_ ?_ _); rotate_left; (first | exact Nat.le_refl _ | ((try dsimp only); (try simp only [World.size_alloc, grow_size, World.size_setCell]); omega)))))) ?_; rintro e w1 ⟨rfl, hy⟩; obtain ⟨da, rfl⟩ := hy.grown; clear hy) | (go_at_call 18; with_reducible refine Calls.mono (HLB.out _ (by repeat (first | (with_reducible exact Ext.refl _) | (with_reducible refine Ext.undrew ?_) | (with_reducible refine Ext.grow ?_ _) | (with_reducible refine Ext.drew ?_) | (with_reducible refine Ext.drewN ?_ _) | (with_reducible refine Ext.alloc ?_ _) | (with_reducible assumption) | ((with_reducible refine Ext.setCell ?_ ?_ _); rotate_left; (first | exact Nat.le_refl _ | ((try dsimp only); (try simp only [World.size_alloc, grow_size, World.size_setCell]); omega)))))) ?_; rintro e w1 ⟨rfl, hy⟩; obtain ⟨db, rfl⟩ := hy.grown; clear hy) | (go_at_call 16; with_reducible refine Calls.mono (HRB.out _ (by repeat (first | (with_reducible exact Ext.refl _) | (with_reducible refine Ext.undrew ?_) | (with_reducible refine Ext.grow ?_ _) | (with_reducible refine Ext.drew ?_) | (with_reducible refine Ext.drewN ?_ _) | (with_reducible refine Ext.alloc ?_ _) | (with_reducible assumption) | ((with_reducible refine Ext.setCell ?_ ?_ _); rotate_left; (first | exact Nat.le_refl _ | ((try dsimp only); (try simp only [World.size_alloc, grow_size, World.size_setCell]); omega)))))) ?_; rintro e w1 ⟨A9, c9, rfl, HA9, hy⟩; obtain ⟨d9, rfl⟩ := hy.grown; clear hy HA9)); refine ⟨_, (by repeat (first | (with_reducible exact Ext.refl _) | (with_reducible refine Ext.undrew ?_) | (with_reducible refine Ext.grow ?_ _) | (with_reducible refine Ext.drew ?_) | (with_reducible refine Ext.drewN ?_ _) | (with_reducible refine Ext.alloc ?_ _) | (with_reducible assumption) | ((with_reducible refine Ext.setCell ?_ ?_ _); rotate_left; (first | exact Nat.le_refl _ | ((try dsimp only); (try simp only [World.size_alloc, grow_size, World.size_setCell]); omega))))), Ext.refl _, ?_⟩) | refine step_br ?_ ?_)
                    all_goals refine step_nil ?_
                    have HX9 : Hid (Ext W8 _) := hid (by repeat (first | (with_reducible exact Ext.refl _) | (with_reducible refine Ext.undrew ?_) | (with_reducible refine Ext.grow ?_ _) | (with_reducible refine Ext.drew ?_) | (with_reducible refine Ext.drewN ?_ _) | (with_reducible refine Ext.alloc ?_ _) | (with_reducible assumption) | ((with_reducible refine Ext.setCell ?_ ?_ _); rotate_left; (first | exact Nat.le_refl _ | ((try dsimp only); (try simp only [World.size_alloc, grow_size, World.size_setCell]); omega)))))
                    go_wp2
                    go_ret
                    exact ⟨rfl, Ext.trans HX.out (by repeat (first | (with_reducible exact Ext.refl _) | (with_reducible refine Ext.undrew ?_) | (with_reducible refine Ext.grow ?_ _) | (with_reducible refine Ext.drew ?_) | (with_reducible refine Ext.drewN ?_ _) | (with_reducible refine Ext.alloc ?_ _) | (with_reducible assumption) | ((with_reducible refine Ext.setCell ?_ ?_ _); rotate_left; (first | exact Nat.le_refl _ | ((try dsimp only); (try simp only [World.size_alloc, grow_size, World.size_setCell]); omega)))))⟩
                  · have hck1 : ¬ (c : Int) = (kk : Int) := by omega
                    have HLA : Hid (∀ W, Ext W8 W → Calls Tryd.prog 18 #[.slice (some ⟨g, o, none⟩) kk c] W fun e w' => e = .returned (.string LA) ∧ Ext W w') := hid (fun W hx => by have h := alines_ (some ⟨g, o, none⟩) kk c (r.take kk) W (by have h7 := HRN.out; rw [List.length_take]; omega) (((HO.out.rdF HRN.out).take insC_len kk).ext hx) (by omega) (HT.out.ext (HX.out.trans hx)); rw [HLAe.out] at h; exact h)
                    have HLB : Hid (∀ W, Ext W8 W → Calls Tryd.prog 18 #[.slice (some ⟨g, o + kk * 4, none⟩) (rn - kk) (c - kk)] W fun e w' => e = .returned (.string LB) ∧ Ext W w') := hid (fun W hx => by have h := alines_ (some ⟨g, o + kk * 4, none⟩) (rn - kk) (c - kk) (r.drop kk) W (by have h7 := HRN.out; rw [List.length_drop]; omega) (RdF.ext ((HO.out.rdF HRN.out).drop insC_len kk) hx) (by omega) (HT.out.ext (HX.out.trans hx)); rw [HLBe.out] at h; exact h)
                    refine wp_region_step (.rd 0 (.rd 1 (.rd 2 (.rd 4 (.rd 7 (.rd 8 (.rd 9 (.ac 3 (.rd 5 (.rd 6 (.ac 10 (.rd 11 (.ac 12 (.rd 13 (.rd 14 (.rd 15 (.rd 16 (.rd 17 (.rd 18 (.rd 19 .done)))))))))))))))))))) (by kernel_rfl) (by kernel_rfl) (fun _ _ d _ _ h => by cases d <;> exact h) (by simp only [Ord.map, nthOp, List.append]; rfl) ?_
                    intro d0
                    repeat' (first | (refine step_read (by rfl) (fun K hK => ?_); go_big_quiet_op; refine hK _ ?_; clear hK K) | (refine step_act (by rfl) (fun K hK => ?_); go_wp2_with (first | (go_at_call 18; with_reducible refine Calls.mono (HLA.out _ (by repeat (first | (with_reducible exact Ext.refl _) | (with_reducible refine Ext.undrew ?_) | (with_reducible refine Ext.grow ?_ _) | (with_reducible refine Ext.drew ?_) | (with_reducible refine Ext.drewN ?_ _) | (with_reducible refine Ext.alloc ?_ _) | (with_reducible assumption) | ((with_reducible refine Ext.setCell ?_ ?_ _); rotate_left; (first | exact Nat.le_refl _ | ((try dsimp only); (try simp only [World.size_alloc, grow_size, World.size_setCell]); omega)))))) ?_; rintro e w1 ⟨rfl, hy⟩; obtain ⟨da, rfl⟩ := hy.grown; clear hy) | (go_at_call 18; with_reducible refine Calls.mono (HLB.out _ (by repeat (first | (with_reducible exact Ext.refl _) | (with_reducible refine Ext.undrew ?_) | (with_reducible refine Ext.grow ?_ _) | (with_reducible refine Ext.drew ?_) | (with_reducible refine Ext.drewN ?_ _) | (with_reducible refine Ext.alloc ?_ _) | (with_reducible assumption) | ((with_reducible refine Ext.setCell ?_ ?_ _); rotate_left; (first | exact Nat.le_refl _ | ((try dsimp only); (try simp only [World.size_alloc, grow_size, World.size_setCell]); omega)))))) ?_; rintro e w1 ⟨rfl, hy⟩; obtain ⟨db, rfl⟩ := hy.grown; clear hy) | (go_at_call 16; with_reducible refine Calls.mono (HRB.out _ (by repeat (first | (with_reducible exact Ext.refl _) | (with_reducible refine Ext.undrew ?_) | (with_reducible refine Ext.grow ?_ _) | (with_reducible refine Ext.drew ?_) | (with_reducible refine Ext.drewN ?_ _) | (with_reducible refine Ext.alloc ?_ _) | (with_reducible assumption) | ((with_reducible refine Ext.setCell ?_ ?_ _); rotate_left; (first | exact Nat.le_refl _ | ((try dsimp only); (try simp only [World.size_alloc, grow_size, World.size_setCell]); omega)))))) ?_; rintro e w1 ⟨A9, c9, rfl, HA9, hy⟩; obtain ⟨d9, rfl⟩ := hy.grown; clear hy HA9)); refine ⟨_, (by repeat (first | (with_reducible exact Ext.refl _) | (with_reducible refine Ext.undrew ?_) | (with_reducible refine Ext.grow ?_ _) | (with_reducible refine Ext.drew ?_) | (with_reducible refine Ext.drewN ?_ _) | (with_reducible refine Ext.alloc ?_ _) | (with_reducible assumption) | ((with_reducible refine Ext.setCell ?_ ?_ _); rotate_left; (first | exact Nat.le_refl _ | ((try dsimp only); (try simp only [World.size_alloc, grow_size, World.size_setCell]); omega))))), Ext.refl _, ?_⟩) | refine step_br ?_ ?_)
                    all_goals refine step_nil ?_
                    have HX9 : Hid (Ext W8 _) := hid (by repeat (first | (with_reducible exact Ext.refl _) | (with_reducible refine Ext.undrew ?_) | (with_reducible refine Ext.grow ?_ _) | (with_reducible refine Ext.drew ?_) | (with_reducible refine Ext.drewN ?_ _) | (with_reducible refine Ext.alloc ?_ _) | (with_reducible assumption) | ((with_reducible refine Ext.setCell ?_ ?_ _); rotate_left; (first | exact Nat.le_refl _ | ((try dsimp only); (try simp only [World.size_alloc, grow_size, World.size_setCell]); omega)))))
                    go_wp2
                    go_ret
                    exact ⟨rfl, Ext.trans HX.out (by repeat (first | (with_reducible exact Ext.refl _) | (with_reducible refine Ext.undrew ?_) | (with_reducible refine Ext.grow ?_ _) | (with_reducible refine Ext.drew ?_) | (with_reducible refine Ext.drewN ?_ _) | (with_reducible refine Ext.alloc ?_ _) | (with_reducible assumption) | ((with_reducible refine Ext.setCell ?_ ?_ _); rotate_left; (first | exact Nat.le_refl _ | ((try dsimp only); (try simp only [World.size_alloc, grow_size, World.size_setCell]); omega)))))⟩

    · have hs1 : (900 : Int) < (a1.size : Int) := by omega
      go_enter Tryd.func6, Tryd.ntmps6
      go_wp2_with fail
      refine Calls.mono (HHD.out _ (by repeat (first | (with_reducible exact Ext.refl _) | (with_reducible refine Ext.undrew ?_) | (with_reducible refine Ext.grow ?_ _) | (with_reducible refine Ext.drew ?_) | (with_reducible refine Ext.drewN ?_ _) | (with_reducible refine Ext.alloc ?_ _) | (with_reducible assumption) | ((with_reducible refine Ext.setCell ?_ ?_ _); rotate_left; (first | exact Nat.le_refl _ | ((try dsimp only); (try simp only [World.size_alloc, grow_size, World.size_setCell]); omega)))))) ?_
      rintro e W1 ⟨rfl, hy⟩
      go_wp2
      go_ret
      exact ⟨rfl, hy⟩
  · have hl1 : (200 : Int) < (zs0.length : Int) := by omega
    go_enter Tryd.func6, Tryd.ntmps6
    go_wp2_with fail
    refine Calls.mono (HHD.out _ (by repeat (first | (with_reducible exact Ext.refl _) | (with_reducible refine Ext.undrew ?_) | (with_reducible refine Ext.grow ?_ _) | (with_reducible refine Ext.drew ?_) | (with_reducible refine Ext.drewN ?_ _) | (with_reducible refine Ext.alloc ?_ _) | (with_reducible assumption) | ((with_reducible refine Ext.setCell ?_ ?_ _); rotate_left; (first | exact Nat.le_refl _ | ((try dsimp only); (try simp only [World.size_alloc, grow_size, World.size_setCell]); omega)))))) ?_
    rintro e W1 ⟨rfl, hy⟩
    go_wp2
    go_ret
    exact ⟨rfl, hy⟩
end asmRead

end Go.Proofs.YtdhpbofpomefoaaDoor
