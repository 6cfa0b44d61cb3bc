/- Layer 16: variables of the library; Name. -/
import Derived.Test.YtdhpbofpomefoaaDoorAsmV
import Derived.Test.YtdhpbofpomefoaaDoorShelf
namespace Go.Proofs.YtdhpbofpomefoaaDoor
set_option linter.unusedSimpArgs false
set_option linter.unusedVariables false
open Go.RowKit

open Go.Lib (TabIs)
theorem wp_gen {P : Program} {a : Act} {Q : Exit → Act → World → Prop} {c : Code} {w : World} (I : World → Prop) (hI : I w) (h : ∀ w', I w' → c.wp P Q a w') : c.wp P Q a w := h w hI
theorem Row.new (w : World) (cs : Array Value) (T : TypeId) : Row (w.alloc (.cells cs T)) w.heap.size 0 cs.toList :=
  ⟨by simp, fun j v hj => by simp [go_sem]; simpa using hj, fun j hj => by simp [go_sem]⟩
theorem var_ext {P : Program} {w w' : World} {n : String} {cs : Array Value} (h : w.var? P n = some cs) (x : Ext w w') : w'.var? P n = some cs := by
  unfold World.var? at h ⊢
  cases e : P.globalNamed n with
  | none => rw [e] at h; cases h
  | some g =>
    rw [e] at h
    simp only [Option.bind_some] at h ⊢
    cases e2 : w.heap[g]? with
    | none => rw [e2] at h; cases h
    | some o =>
      have hl : g < w.heap.size := (Array.getElem?_eq_some_iff.1 e2).1
      rw [x.block g hl, e2]
      rw [e2] at h
      exact h
/-- What variables of the library hold. -/
structure Tb (w : World) : Prop where
  sp : Lib.TabIs Tryd.prog w "strings.asciiSpace" .u8 Lib.asciiSpaceTab
  pw : Lib.TabIs Tryd.prog w "internal/strconv.uint64pow10" .u64 Lib.pow10Tab
  sy : ∃ tp p, w.var? Tryd.prog "strconv.ErrSyntax" = some #[.iface tp p]
  rg : ∃ tp p, w.var? Tryd.prog "strconv.ErrRange" = some #[.iface tp p]
  mx : ∃ m, w.cell? ⟨4, 0, none⟩ = some (.int .i64 m)
  lt : 4 < w.heap.size
theorem Tb.ext {w w' : World} (h : Tb w) (x : Ext w w') : Tb w' := by
  obtain ⟨h1, h2, ⟨a, b, h3⟩, ⟨c, d, h4⟩, ⟨m, h5⟩, h6⟩ := h
  exact ⟨var_ext h1 x, var_ext h2 x, ⟨a, b, var_ext h3 x⟩, ⟨c, d, var_ext h4 x⟩, ⟨m, (x.cells 4 0 h6).trans h5⟩, Nat.lt_of_lt_of_le h6 x.size⟩
theorem fields_nm : Lib.fields (((⟨#[104, 97, 108, 116, 32, 109, 111, 118, 105, 32, 109, 111, 118, 32, 97, 100, 100, 32, 115, 117, 98, 32, 109, 117, 108, 32, 100, 105, 118, 32, 108, 116, 32, 101, 113, 32, 106, 109, 112, 32, 106, 122, 32, 108, 100, 98, 32, 115, 116, 98, 32, 108, 100, 119, 32, 115, 116, 119, 32, 108, 100, 99, 32, 115, 116, 99, 32, 105, 110, 99, 32, 98, 110, 100, 32, 112, 114, 109, 32, 115, 101, 108, 32, 117, 110, 115, 32, 101, 110, 116, 32, 99, 97, 108, 108, 32, 114, 101, 116, 32, 108, 101, 110, 32, 111, 102, 102, 32, 116, 97, 103, 32, 97, 100, 100, 114, 32, 115, 121, 115]⟩ : ByteArray)).data.toList) = nmL := by decide +kernel
theorem names_ascii : ∀ b ∈ (((⟨#[104, 97, 108, 116, 32, 109, 111, 118, 105, 32, 109, 111, 118, 32, 97, 100, 100, 32, 115, 117, 98, 32, 109, 117, 108, 32, 100, 105, 118, 32, 108, 116, 32, 101, 113, 32, 106, 109, 112, 32, 106, 122, 32, 108, 100, 98, 32, 115, 116, 98, 32, 108, 100, 119, 32, 115, 116, 119, 32, 108, 100, 99, 32, 115, 116, 99, 32, 105, 110, 99, 32, 98, 110, 100, 32, 112, 114, 109, 32, 115, 101, 108, 32, 117, 110, 115, 32, 101, 110, 116, 32, 99, 97, 108, 108, 32, 114, 101, 116, 32, 108, 101, 110, 32, 111, 102, 102, 32, 116, 97, 103, 32, 97, 100, 100, 114, 32, 115, 121, 115]⟩ : ByteArray)).data.toList), b.toNat < 128 := by decide +kernel
theorem fields_ (w : World) (ht : Tb w) : Calls Tryd.prog 24 #[.string ⟨#[104, 97, 108, 116, 32, 109, 111, 118, 105, 32, 109, 111, 118, 32, 97, 100, 100, 32, 115, 117, 98, 32, 109, 117, 108, 32, 100, 105, 118, 32, 108, 116, 32, 101, 113, 32, 106, 109, 112, 32, 106, 122, 32, 108, 100, 98, 32, 115, 116, 98, 32, 108, 100, 119, 32, 115, 116, 119, 32, 108, 100, 99, 32, 115, 116, 99, 32, 105, 110, 99, 32, 98, 110, 100, 32, 112, 114, 109, 32, 115, 101, 108, 32, 117, 110, 115, 32, 101, 110, 116, 32, 99, 97, 108, 108, 32, 114, 101, 116, 32, 108, 101, 110, 32, 111, 102, 102, 32, 116, 97, 103, 32, 97, 100, 100, 114, 32, 115, 121, 115]⟩] w fun e w' => ∃ b, e = .returned (.slice (some ⟨b, 0, none⟩) 30 30) ∧ Hid (Ext w w') ∧ Hid (w.heap.size ≤ b ∧ b < w'.heap.size) ∧ Hid (∀ j, (hj : j < 30) → w'.cell? ⟨b, j, none⟩ = some (.string ⟨(nmL[j]'(by rw [nm_len]; exact hj)).toArray⟩)) := by
  refine (Tryd.strings_Fields_laid ⟨#[104, 97, 108, 116, 32, 109, 111, 118, 105, 32, 109, 111, 118, 32, 97, 100, 100, 32, 115, 117, 98, 32, 109, 117, 108, 32, 100, 105, 118, 32, 108, 116, 32, 101, 113, 32, 106, 109, 112, 32, 106, 122, 32, 108, 100, 98, 32, 115, 116, 98, 32, 108, 100, 119, 32, 115, 116, 119, 32, 108, 100, 99, 32, 115, 116, 99, 32, 105, 110, 99, 32, 98, 110, 100, 32, 112, 114, 109, 32, 115, 101, 108, 32, 117, 110, 115, 32, 101, 110, 116, 32, 99, 97, 108, 108, 32, 114, 101, 116, 32, 108, 101, 110, 32, 111, 102, 102, 32, 116, 97, 103, 32, 97, 100, 100, 114, 32, 115, 121, 115]⟩ w (by decide) (fun j b hb => names_ascii b (List.mem_of_getElem? hb)) ht.sp).mono ?_
  rw [fields_nm]
  rintro e w' ⟨rfl, rfl⟩
  refine ⟨w.heap.size, rfl, hid (Ext.alloc (Ext.refl _) _), hid ⟨Nat.le_refl _, by simp⟩, hid fun j hj => ?_⟩
  have hl : j < nmL.length := by rw [nm_len]; exact hj
  simp [go_sem, hl]
theorem nameL_at {n : Nat} (h : n < 30) : nameL (n : Int) = nmL[n]'(by rw [nm_len]; exact h) := by
  unfold nameL
  rw [if_pos (by omega)]
  simp [List.getD, List.getElem?_eq_getElem (show n < nmL.length by rw [nm_len]; exact h)]
theorem nameL_no {op : Int} (h : ¬ (0 ≤ op ∧ op ≤ 29)) : nameL op = [] := by unfold nameL; rw [if_neg h]
set_option maxRecDepth 100000 in
set_option maxHeartbeats 4000000 in
theorem name_ (op : Int) (w : World) (ht : Tb w) : Calls Tryd.prog 12 #[.int .i64 op] w fun e w' => e = .returned (.string ⟨(nameL op).toArray⟩) ∧ Ext w w' := by
  have HT := hid ht
  clear ht
  by_cases h0 : op < 0
  · rw [nameL_no (by omega)]
    go_enter Tryd.func12, Tryd.ntmps12
    go_wp2
    go_ret
    exact ⟨rfl, (by repeat (first | (with_reducible exact Ext.refl _) | (with_reducible refine Ext.undrew ?_) | (with_reducible refine Ext.grow ?_ _) | (with_reducible refine Ext.drew ?_) | (with_reducible refine Ext.drewN ?_ _) | (with_reducible refine Ext.alloc ?_ _) | (with_reducible assumption) | ((with_reducible refine Ext.setCell ?_ ?_ _); rotate_left; (first | exact Nat.le_refl _ | ((try dsimp only); (try simp only [World.size_alloc, grow_size, World.size_setCell]); omega)))))⟩
  · by_cases h1 : 29 < op
    · rw [nameL_no (by omega)]
      go_enter Tryd.func12, Tryd.ntmps12
      go_wp2
      go_ret
      exact ⟨rfl, (by repeat (first | (with_reducible exact Ext.refl _) | (with_reducible refine Ext.undrew ?_) | (with_reducible refine Ext.grow ?_ _) | (with_reducible refine Ext.drew ?_) | (with_reducible refine Ext.drewN ?_ _) | (with_reducible refine Ext.alloc ?_ _) | (with_reducible assumption) | ((with_reducible refine Ext.setCell ?_ ?_ _); rotate_left; (first | exact Nat.le_refl _ | ((try dsimp only); (try simp only [World.size_alloc, grow_size, World.size_setCell]); omega)))))⟩
    · obtain ⟨n, rfl⟩ : ∃ n : Nat, op = (n : Int) := ⟨op.toNat, by omega⟩
      have hn : n < 30 := by omega
      have hi1 : (n : Int) < 30 := by omega
      rw [nameL_at hn]
      obtain ⟨s, hnm⟩ : ∃ s, nmL[n]'(by rw [nm_len]; exact hn) = s := ⟨_, rfl⟩
      rw [hnm]
      go_enter Tryd.func12, Tryd.ntmps12
      go_wp2_with (go_at_call 24; refine (fields_ _ (HT.out.ext (by repeat (first | (with_reducible exact Ext.refl _) | (with_reducible refine Ext.undrew ?_) | (with_reducible refine Ext.grow ?_ _) | (with_reducible refine Ext.drew ?_) | (with_reducible refine Ext.drewN ?_ _) | (with_reducible refine Ext.alloc ?_ _) | (with_reducible assumption) | ((with_reducible refine Ext.setCell ?_ ?_ _); rotate_left; (first | exact Nat.le_refl _ | ((try dsimp only); (try simp only [World.size_alloc, grow_size, World.size_setCell]); omega))))))).mono ?_; rintro e w1 ⟨b, rfl, HX, HB, HC⟩; have hb := HB.out.2; have hc := HC.out n hn; rw [hnm] at hc; have hx := HX.out)
      go_ret
      exact ⟨rfl, (by repeat (first | (with_reducible exact Ext.refl _) | (with_reducible refine Ext.undrew ?_) | (with_reducible refine Ext.grow ?_ _) | (with_reducible refine Ext.drew ?_) | (with_reducible refine Ext.drewN ?_ _) | (with_reducible refine Ext.alloc ?_ _) | (with_reducible assumption) | ((with_reducible refine Ext.setCell ?_ ?_ _); rotate_left; (first | exact Nat.le_refl _ | ((try dsimp only); (try simp only [World.size_alloc, grow_size, World.size_setCell]); omega)))))⟩

end Go.Proofs.YtdhpbofpomefoaaDoor
