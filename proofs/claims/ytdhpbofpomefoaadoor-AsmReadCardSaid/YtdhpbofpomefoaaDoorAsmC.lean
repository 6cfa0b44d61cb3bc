/- Layer 16: Split, Index, TrimPrefix, Atoi. -/
import Derived.Test.YtdhpbofpomefoaaDoorAsmB
namespace Go.Proofs.YtdhpbofpomefoaaDoor
set_option linter.unusedSimpArgs false
set_option linter.unusedVariables false
open Go.RowKit

/-- A row of strings. -/
def WS (w : World) (b o : Nat) (ws : List (List UInt8)) : Prop := b < w.heap.size ∧ ∀ j, (hj : j < ws.length) → w.cell? ⟨b, o + j, none⟩ = some (.string ⟨(ws[j]).toArray⟩)
theorem WS.ext {w w' : World} {b o : Nat} {ws : List (List UInt8)} (h : WS w b o ws) (x : Ext w w') : WS w' b o ws := ⟨Nat.lt_of_lt_of_le h.1 x.size, fun j hj => (x.cells b _ h.1).trans (h.2 j hj)⟩
theorem WS.only {S : Nat → Prop} {w w' : World} {b o : Nat} {ws : List (List UInt8)} (h : WS w b o ws) (x : Only S w w') (hn : ¬ S b) : WS w' b o ws := ⟨Nat.lt_of_lt_of_le h.1 x.size, fun j hj => (x.cells b _ h.1 hn).trans (h.2 j hj)⟩
theorem WS.tail {w : World} {b o : Nat} {v : List UInt8} {ws : List (List UInt8)} (h : WS w b o (v :: ws)) : WS w b (o + 1) ws := ⟨h.1, fun j hj => by
  have := h.2 (j + 1) (by simpa using hj)
  rw [show o + 1 + j = o + (j + 1) by omega, this]
  rfl⟩
theorem WS.head {w : World} {b o : Nat} {v : List UInt8} {ws : List (List UInt8)} (h : WS w b o (v :: ws)) : w.cell? ⟨b, o, none⟩ = some (.string ⟨v.toArray⟩) := by
  have := h.2 0 (by simp)
  simpa using this
theorem ba_eta (s : ByteArray) : (⟨s.data.toList.toArray⟩ : ByteArray) = s := by
  apply ByteArray.ext
  simp
theorem split_ (s : ByteArray) (w : World) (ht : Tb w) (hs : s.size ≤ 1000000) : Calls Tryd.prog 22 #[.string s, .string ⟨#[32]⟩] w fun e w' => ∃ b, e = .returned (.slice (some ⟨b, 0, none⟩) (words s.data.toList).length (words s.data.toList).length) ∧ Hid (Ext w w') ∧ Hid (WS w' b 0 (words s.data.toList)) := by
  obtain ⟨m, hm⟩ := ht.mx
  refine (Tryd.strings_Split s ⟨#[32]⟩ m w (by omega) hm (by decide)).mono ?_
  rintro e w' ⟨rfl, rfl⟩
  have hd := Lib.splitB_data ⟨#[32]⟩ 0 (Lib.countB s ⟨#[32]⟩) s
  have hw : (Lib.splitB ⟨#[32]⟩ 0 (Lib.countB s ⟨#[32]⟩) s).map (·.data.toList) = words s.data.toList := hd
  have hl : (Lib.splitB ⟨#[32]⟩ 0 (Lib.countB s ⟨#[32]⟩) s).length = Lib.countB s ⟨#[32]⟩ + 1 := Lib.splitB_all ⟨#[32]⟩ (by decide) 0 _ s rfl
  have hz : Lib.splitB ⟨#[32]⟩ 0 (Lib.countB s ⟨#[32]⟩) s = (words s.data.toList).map (fun l => (⟨l.toArray⟩ : ByteArray)) := by
    rw [← hw, List.map_map]
    conv => lhs; rw [← List.map_id (Lib.splitB ⟨#[32]⟩ 0 (Lib.countB s ⟨#[32]⟩) s)]
    refine List.map_congr_left fun x _ => ?_
    exact (ba_eta x).symm
  have hl2 : (words s.data.toList).length = Lib.countB s ⟨#[32]⟩ + 1 := by rw [← hl, hz, List.length_map]
  rw [← hl2, hz]
  refine ⟨w.heap.size, rfl, hid (Ext.alloc (Ext.refl _) _), hid ⟨by simp, fun j hj => ?_⟩⟩
  simp [go_sem, hj]
theorem idxS_go (x : List UInt8) : ∀ (zs : List (List UInt8)) (i : Nat), Lib.idxFromS (zs.map fun l => (⟨l.toArray⟩ : ByteArray)) ⟨x.toArray⟩ i = (match zs.findIdx? (· == x) with | some k => ((i + k : Nat) : Int) | none => -1)
  | [], i => rfl
  | z :: zs, i => by
    have ih := idxS_go x zs (i + 1)
    rw [List.map_cons, List.findIdx?_cons]
    by_cases h : z = x
    · subst h
      simp [Lib.idxFromS]
    · have h1 : (z == x) = false := by simpa using h
      have h2 : ¬ (⟨z.toArray⟩ : ByteArray) = ⟨x.toArray⟩ := fun e => h (by have := congrArg (fun b : ByteArray => b.data.toList) e; simpa using this)
      rw [h1]
      simp only [Lib.idxFromS, h2, if_false, Bool.false_eq_true, beq_iff_eq]
      rw [ih]
      cases zs.findIdx? (· == x) with
      | none => rfl
      | some k => show ((i + 1 + k : Nat) : Int) = ((i + (k + 1) : Nat) : Int); rw [show i + 1 + k = i + (k + 1) by omega]
theorem index_nm (b n : Nat) (x : List UInt8) (w : World) (hb : ∀ j, (hj : j < 30) → w.cell? ⟨b, j, none⟩ = some (.string ⟨(nmL[j]'(by rw [nm_len]; exact hj)).toArray⟩)) : Calls Tryd.prog 23 #[.slice (some ⟨b, 0, none⟩) 30 30, .string ⟨x.toArray⟩] w fun e w' => e = .returned (.int .i64 (idxN x)) ∧ w' = w := by
  have := Tryd.slices_Index_string b 0 30 30 (nmL.map fun l => (⟨l.toArray⟩ : ByteArray)) ⟨x.toArray⟩ w (by rw [List.length_map, nm_len]; exact Nat.le_refl _) (by decide) (fun j hj => by
    have hj' : j < 30 := by rw [List.length_map, nm_len] at hj; exact hj
    rw [Nat.zero_add, hb j hj']
    simp [List.getD, List.getElem?_eq_getElem (show j < nmL.length by rw [nm_len]; exact hj')])
  rw [List.take_of_length_le (by rw [List.length_map, nm_len]; exact Nat.le_refl _)] at this
  unfold Lib.idxOfS at this
  rw [idxS_go] at this
  have e : (match nmL.findIdx? (· == x) with | some k => ((0 + k : Nat) : Int) | none => -1) = idxN x := by
    unfold idxN
    cases nmL.findIdx? (· == x) with
    | none => rfl
    | some k => simp
  rw [e] at this
  exact this
theorem trim_ (l : List UInt8) (w : World) : Calls Tryd.prog 27 #[.string ⟨l.toArray⟩, .string ⟨#[114]⟩] w fun e w' => e = .returned (.string ⟨(trimR l).toArray⟩) ∧ w' = w := by
  have := Tryd.strings_TrimPrefix ⟨l.toArray⟩ ⟨#[114]⟩ w
  have e : Lib.trimPrefix (⟨l.toArray⟩ : ByteArray).data.toList (⟨#[114]⟩ : ByteArray).data.toList = trimR l := by
    show Lib.trimPrefix l [114] = trimR l
    unfold Lib.trimPrefix Lib.hasPrefix trimR
    cases l with
    | nil => rfl
    | cons c r =>
      by_cases h : c = 114
      · subst h; simp
      · have h2 : (114 == c) = false := by simpa using fun e => h e.symm
        simp [h, List.isPrefixOf, h2]
  rw [e] at this
  exact this
theorem bytesWorld_ext (w : World) (e : TypeId) (s : ByteArray) : Ext w (Lib.bytesWorld w e s) := Lib.bytesWorld_below _ _ _
theorem atoi_ (l : List UInt8) (w : World) (ht : Tb w) (hl : l.length ≤ 1000000) : Calls Tryd.prog 26 #[.string ⟨l.toArray⟩] w fun e w' => ∃ ev, e = .returned (.tuple #[.int .i64 (valA l), ev]) ∧ Hid (Ext w w') := by
  have hsz : (⟨l.toArray⟩ : ByteArray).size = l.length := by show l.toArray.size = l.length; simp
  cases h : Lib.atoiAll l with
  | ok v =>
    have hv : valA l = v := by unfold valA; rw [h]
    rw [hv]
    refine (Tryd.strconv_Atoi_ok ⟨l.toArray⟩ (by omega) v h w).mono ?_
    rintro e w' ⟨rfl, hw⟩
    refine ⟨_, rfl, hid ?_⟩
    rcases hw with rfl | ⟨t, rfl⟩
    · exact Ext.refl _
    · exact bytesWorld_ext _ _ _
  | «syntax» =>
    have hv : valA l = 0 := by unfold valA; rw [h]
    rw [hv]
    obtain ⟨tp, p, hvar⟩ := ht.sy
    refine (Tryd.strconv_Atoi_syntax_var ⟨l.toArray⟩ (by omega) h tp p w hvar).mono ?_
    rintro e w' ⟨N, rfl, _, _, hb⟩
    exact ⟨_, rfl, hid hb⟩
  | range =>
    have hv : valA l = Lib.atoiSat l := by unfold valA; rw [h]
    rw [hv]
    obtain ⟨tp, p, hvar⟩ := ht.rg
    refine (Tryd.strconv_Atoi_range_var ⟨l.toArray⟩ (by omega) h tp p w hvar).mono ?_
    rintro e w' ⟨N, rfl, _, _, hb⟩
    exact ⟨_, rfl, hid hb⟩

end Go.Proofs.YtdhpbofpomefoaaDoor
