/- Layer 7: Clean, Dirty. -/
import Derived.Test.YtgpeabbbeidhpaaTagG
namespace Go.Proofs.Ytgpeabbbeidhpaa
set_option linter.unusedSimpArgs false
set_option linter.unusedVariables false
open Go.RowKit

set_option maxRecDepth 100000 in
set_option maxHeartbeats 4000000 in
theorem tclean_no1 (q g n : Nat) (B : Nat → Int) (T D : Nat → Bool) (w : World) (h : Mm w q g n B T D) (x : Int) (hx : x < 0) : Calls Try.prog 16 #[.pointer (some ⟨q, 0, none⟩), .int .i64 x] w fun e w' => e = .returned (.bool false) ∧ w = w' := by
  have c0 := h.c0
  have hlq := h.ltq
  have hlg := h.ltg
  have hbd := h.bd
  have HH := hid h
  clear h
  go_enter Try.func16, Try.ntmps16
  go_wp2
  go_ret
  exact ⟨rfl, rfl⟩
set_option maxRecDepth 100000 in
set_option maxHeartbeats 4000000 in
theorem tclean_no2 (q g n : Nat) (B : Nat → Int) (T D : Nat → Bool) (w : World) (h : Mm w q g n B T D) (x : Int) (hx0 : 0 ≤ x) (hx : (n : Int) ≤ x) : Calls Try.prog 16 #[.pointer (some ⟨q, 0, none⟩), .int .i64 x] w fun e w' => e = .returned (.bool false) ∧ w = w' := by
  have c0 := h.c0
  have hlq := h.ltq
  have hlg := h.ltg
  have hbd := h.bd
  have HH := hid h
  clear h
  go_enter Try.func16, Try.ntmps16
  go_wp2
  go_ret
  exact ⟨rfl, rfl⟩
set_option maxRecDepth 100000 in
set_option maxHeartbeats 4000000 in
theorem tclean_no3 (q g n : Nat) (B : Nat → Int) (T D : Nat → Bool) (w : World) (h : Mm w q g n B T D) (p : Nat) (hpn : p < n) (ha : anyB (fun j => T (16 * p + j)) = true) : Calls Try.prog 16 #[.pointer (some ⟨q, 0, none⟩), .int .i64 (p : Int)] w fun e w' => e = .returned (.bool false) ∧ w = w' := by
  have c0 := h.c0
  have hlq := h.ltq
  have hlg := h.ltg
  have hbd := h.bd
  have HH := hid h
  have HA := hid ha
  have hp0 : (0 : Int) ≤ (p : Int) := by omega
  have hp1 : (p : Int) < (n : Int) := by omega
  clear h ha
  go_enter Try.func16, Try.ntmps16
  go_wp2_with (go_at_call 40; refine (ttagged_ g (p * 273) (fun j => T (16 * p + j)) _ (fun j hj => HH.out.tg p j hpn hj) hlg).mono ?_; rw [HA.out]; rintro e w1 ⟨rfl, rfl⟩)
  go_ret
  exact ⟨rfl, rfl⟩
set_option maxRecDepth 100000 in
set_option maxHeartbeats 4000000 in
theorem tclean_yes (q g n : Nat) (B : Nat → Int) (T D : Nat → Bool) (w : World) (h : Mm w q g n B T D) (p : Nat) (hpn : p < n) (ha : anyB (fun j => T (16 * p + j)) = false) : Calls Try.prog 16 #[.pointer (some ⟨q, 0, none⟩), .int .i64 (p : Int)] w fun e w' => e = .returned (.bool true) ∧ Hid (Mm w' q g n B T (upd1 D p false)) ∧ Hid (Only (· = g) w w') := by
  have c0 := h.c0
  have hlq := h.ltq
  have hlg := h.ltg
  have hbd := h.bd
  have HH := hid h
  have HA := hid ha
  have hp0 : (0 : Int) ≤ (p : Int) := by omega
  have hp1 : (p : Int) < (n : Int) := by omega
  have hdt := h.dt p hpn
  have hfz := h.fz (p * 273 + 272)
  have HM := hid (h.clean hpn (fun i hi => by
    have : ∀ j ∈ List.range 16, ¬ T (16 * p + j) = true := by simpa [anyB] using ha
    have := this i (by simpa using hi)
    simpa using this))
  have HO : Hid (Only (· = g) w (w.setCell ⟨g, p * 273 + 272, none⟩ (.bool false))) := hid (Only.setCell (S := (· = g)) (Only.refl _ _) (.inl rfl) _)
  clear h ha
  go_enter Try.func16, Try.ntmps16
  go_wp2_with (go_at_call 40; refine (ttagged_ g (p * 273) (fun j => T (16 * p + j)) _ (fun j hj => HH.out.tg p j hpn hj) hlg).mono ?_; rw [HA.out]; rintro e w1 ⟨rfl, rfl⟩)
  go_ret
  exact ⟨rfl, HM, HO⟩
/-- Which there are, up to one. -/
def whichN (D : Nat → Bool) (k : Nat) : List Nat := (List.range k).filter D
theorem whichN_yes {D : Nat → Bool} {k : Nat} (h : D k = true) : whichN D (k + 1) = whichN D k ++ [k] := by simp [whichN, List.range_succ, h]
theorem whichN_no {D : Nat → Bool} {k : Nat} (h : D k = false) : whichN D (k + 1) = whichN D k := by simp [whichN, List.range_succ, h]
theorem whichN_len (D : Nat → Bool) (k : Nat) : (whichN D k).length ≤ k := by
  have := List.length_filter_le D (List.range k)
  simpa [whichN] using this
theorem whichN_mem {D : Nat → Bool} {k x : Nat} : x ∈ whichN D k ↔ x < k ∧ D x = true := by simp [whichN]
def ints (l : List Nat) : List Value := l.map fun (j : Nat) => Value.int .i64 (j : Int)
theorem ints_length (l : List Nat) : (ints l).length = l.length := by simp [ints]
theorem ints_append (l m : List Nat) : ints (l ++ m) = ints l ++ ints m := by simp [ints]
/-- A row of numbers, to be read. -/
def RdN (w : World) (A : Option Addr) (l : List Nat) : Prop := 0 < l.length → ∃ b o, A = some ⟨b, o, none⟩ ∧ b < w.heap.size ∧ ∀ j (h : j < l.length), w.cell? ⟨b, o + j, none⟩ = some (.int .i64 (l[j] : Int))
theorem RdN.only {S : Nat → Prop} {w w' : World} {A : Option Addr} {l : List Nat} (h : RdN w A l) (x : Only S w w') (hs : ∀ b o, A = some ⟨b, o, none⟩ → ¬ S b) : RdN w' A l := fun h0 => by
  obtain ⟨b, o, hA, hb, hc⟩ := h h0
  exact ⟨b, o, hA, Nat.lt_of_lt_of_le hb x.size, fun j hj => by rw [x.cells b _ hb (hs b o hA)]; exact hc j hj⟩
theorem RdN.ext {w w' : World} {A : Option Addr} {l : List Nat} (h : RdN w A l) (x : Ext w w') : RdN w' A l := h.only (Only.ofExt (S := fun _ => False) x) (fun _ _ _ => id)
theorem ownsAt.rdN {w : World} {base n c : Nat} {A : Option Addr} {l : List Nat} (h : ownsAt w base 3 1 (.slice A n c) n (ints l)) (hn : l.length = n) : RdN w A l := fun h0 => by
  obtain ⟨g, o, hA, hb, hlt, hc, _⟩ := h.at_ rfl (by omega)
  refine ⟨g, o * 1, hA, hlt, fun j hj => hc j _ ?_⟩
  simp [ints, hj]
theorem Row.new (w : World) (cs : Array Value) (T : TypeId) : Row (w.alloc (.cells cs T)) w.heap.size 0 cs.toList :=
  ⟨by simp, fun j v hj => by simp [go_sem]; simpa using hj, fun j hj => by simp [go_sem]⟩
theorem grownOnly {S : Nat → Prop} {w w' : World} {row : Option Nat} (h : w.grownBy w' row) (hs : ∀ g, row = some g → S g) : Only S w w' :=
  ⟨h.os, h.tape, h.output, h.size, fun k hk hn => h.block k hk fun e => hn (hs k e.symm)⟩
set_option maxRecDepth 100000 in
set_option maxHeartbeats 4000000 in
theorem tdirty_ (q g n : Nat) (B : Nat → Int) (T D : Nat → Bool) (w : World) (h : Mm w q g n B T D) : Calls Try.prog 27 #[.pointer (some ⟨q, 0, none⟩)] w fun e w' => ∃ A ca, e = .returned (.slice A (whichN D n).length ca) ∧ Hid (RdN w' A (whichN D n)) ∧ Hid (Ext w w') ∧ Hid (∀ b o, A = some ⟨b, o, none⟩ → w.heap.size ≤ b) := by
  obtain ⟨i0, hi0, hz0, hz1, hz2⟩ := info_parts info_int
  have c0 := h.c0
  have hlq := h.ltq
  have hlg := h.ltg
  have hbd := h.bd
  have HH := hid h
  clear h
  go_enter Try.func27, Try.ntmps27
  go_wp2
  clear c0 hlq hlg
  go_loopw [3, 10] (fun v i wr => ∃ k : Nat, k ≤ n ∧ i = .int .i64 k ∧ Hid (ownsAt wr w.heap.size 3 1 v (whichN D k).length (ints (whichN D k))) ∧ Hid (Ext w wr)) (fun _ i _ => n - (intOf i).toNat)
  case atStart => exact ⟨0, Nat.zero_le _, rfl, hid (ownsAt_nil _ _ _ _), hid (Ext.refl _)⟩
  case round =>
    obtain ⟨k, hk, rfl, HO, HE⟩ := hrel
    have hk0 : (0 : Int) ≤ (k : Int) := by omega
    by_cases hlt : k < n
    · have hk1 : (k : Int) < (n : Int) := by omega
      have HM := hid (HH.out.ext HE.out)
      have c0 := HM.out.c0
      have hlq := HM.out.ltq
      have hlg := HM.out.ltg
      have hdt := HM.out.dt k hlt
      have hwl := whichN_len D k
      cases hD : D k with
      | false =>
        rw [hD] at hdt
        have HW := hid (whichN_no hD)
        clear hD
        go_wp2
        go_roundw
        case rel => exact ⟨k + 1, by omega, by go_num, by rw [HW.out]; exact HO, HE⟩
        case measure => simp [intOf]; omega
      | true =>
        rw [hD] at hdt
        have HW := hid (whichN_yes hD)
        clear hD
        go_wp2_with (at_builtin; refine wpList_plain rfl fun K hK => ?_; refine wp_append_at _ _ _ 42 rfl w.heap.size 3 i0 _ 1 8 Try.underlying42 hi0 hz0 hz1 hz2 rfl (by decide) _ _ _ rfl (HO.out.ext (Ext.alloc (Ext.refl _) _)) ⟨wr.heap.size, 0, none⟩ 1 1 [.int .i64 (k : Int)] rfl rfl (fun j u hj => by rw [Addr.add_lit]; exact (Row.new wr #[.int .i64 (k : Int)] _).range j u hj) (fun u hu => by obtain rfl : u = _ := List.mem_singleton.1 hu; rfl) (by unfold maxLen; omega) (by omega) (by have := HE.out.size; simp; omega) (by omega) ?_; intro v5 w5 hown5 hgrow5 hat5; refine hK _ _ ?_; clear hK K)
        have HO5 : Hid (ownsAt w5 w.heap.size 3 1 v5 (whichN D (k + 1)).length (ints (whichN D (k + 1)))) := hid (by
          rw [HW.out, ints_append, List.length_append]
          exact hown5)
        have HE5 : Hid (Ext w w5) := hid (Ext.only (HE.out.trans (Ext.alloc (Ext.refl _) _)) (grownOnly (S := fun i => w.heap.size ≤ i) hgrow5 (fun g e => (HO.out.lt g e).1)) (fun i hi => hi))
        clear hown5 hgrow5 hat5
        go_roundw
        case rel => exact ⟨k + 1, by omega, by go_num, HO5, HE5⟩
        case measure => simp [intOf]; omega
    · obtain rfl : k = n := by omega
      have hk1 : ¬ (k : Int) < (k : Int) := by omega
      obtain ⟨A, ca, rfl, _, _⟩ := HO.out.shape
      go_wp2
      go_ret
      exact ⟨A, ⟨ca, rfl⟩, hid (HO.out.rdN rfl), HE, hid (fun b o e => (HO.out.lt b (by rw [e]; rfl)).1)⟩
set_option maxRecDepth 100000 in
set_option maxHeartbeats 4000000 in
theorem tsame_ (A C : Option Addr) (n ca cc : Nat) (l : List Nat) (w : World) (hA : RdN w A l) (hC : RdN w C l) (hn : n = l.length) (hb : n ≤ 16777216) : Calls Try.prog 24 #[.slice A n ca, .slice C n cc] w fun e w' => e = .returned (.bool true) ∧ Ext w w' := by
  have HA := hid hA
  have HC := hid hC
  subst hn
  clear hA hC
  go_enter Try.func24, Try.ntmps24
  go_wp2
  go_loopw [5] (fun i wr => ∃ k : Nat, k ≤ l.length ∧ i = .int .i64 k ∧ Ext w wr) (fun i _ => l.length - (intOf i).toNat)
  case atStart => exact ⟨0, Nat.zero_le _, rfl, Ext.refl _⟩
  case round =>
    obtain ⟨k, hk, rfl, hx⟩ := hrel
    have hk0 : (0 : Int) ≤ (k : Int) := by omega
    by_cases hlt : k < l.length
    · have hk1 : (k : Int) < (l.length : Int) := by omega
      obtain ⟨b, o, rfl, hb1, h1⟩ := (HA.out.ext hx) (by omega)
      obtain ⟨b2, o2, rfl, hb2, h2⟩ := (HC.out.ext hx) (by omega)
      have c1 := h1 k hlt
      have c2 := h2 k hlt
      clear h1 h2
      generalize l[k] = z at c1 c2
      go_upto_region 6 with (fail)
      refine wp_region_grow (by kernel_rfl) (by kernel_rfl) (by first | (simp only [List.append]; rfl) | rfl) ?_
      (repeat (go_big_quiet_step (fail)))
      refine wpQuiet_nil ?_
      intro wq hq
      obtain ⟨d, rfl⟩ := hq
      go_wp2
      go_roundw
      case rel => exact ⟨k + 1, by omega, by go_num, (by repeat (first | (with_reducible exact Ext.refl _) | (with_reducible refine Ext.undrew ?_) | (with_reducible refine Ext.grow ?_ _) | (with_reducible refine Ext.drew ?_) | (with_reducible refine Ext.drewN ?_ _) | (with_reducible refine Ext.alloc ?_ _) | (with_reducible assumption) | ((with_reducible refine Ext.setCell ?_ ?_ _); rotate_left; (first | exact Nat.le_refl _ | ((try dsimp only); (try simp only [World.size_alloc, grow_size, World.size_setCell]); omega)))))⟩
      case measure => simp [intOf]; omega
    · obtain rfl : k = l.length := by omega
      have hk1 : ¬ (l.length : Int) < (l.length : Int) := by omega
      go_wp2
      go_ret
      exact ⟨rfl, hx⟩

end Go.Proofs.Ytgpeabbbeidhpaa
