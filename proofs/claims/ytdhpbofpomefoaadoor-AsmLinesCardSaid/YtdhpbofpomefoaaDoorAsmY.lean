/- Layer 16: the document's Lines. -/
import Derived.Test.YtdhpbofpomefoaaDoorAsmY0
import Derived.Test.YtdhpbofpomefoaaDoorAsmX0
import Derived.Test.YtdhpbofpomefoaaDoorAsmF
namespace Go.Proofs.YtdhpbofpomefoaaDoor
set_option linter.unusedSimpArgs false
set_option linter.unusedVariables false
open Go.RowKit

set_option maxRecDepth 100000 in
set_option maxHeartbeats 4000000 in
theorem rlines_ (A : Option Addr) (n ca : Nat) (l : List In) (w : World) (hl : l.length = n) (hA : RdF insC w A l) (hn : n ≤ 1000) (ht : Tb w) :
    Calls Tryd.prog 19 #[.slice A n ca] w fun e w' => e = .returned (.string ⟨(linesL l).toArray⟩) ∧ Ext w w' := by
  have HT := hid ht
  have HA := hid hA
  have HL := hid hl
  clear hA hl ht
  go_enter Tryd.func19, Tryd.ntmps19
  go_wp2
  go_loopw [3, 4] (fun t i wr => ∃ k : Nat, k ≤ n ∧ t = .string ⟨(linesL (l.take k)).toArray⟩ ∧ i = .int .i64 k ∧ Hid (Ext w wr)) (fun _ i _ => n - (intOf i).toNat)
  case atStart => exact ⟨0, Nat.zero_le _, rfl, rfl, hid (Ext.refl _)⟩
  case round =>
    obtain ⟨k, hk, rfl, rfl, hx⟩ := hrel
    have HXX := hx
    by_cases hlt : k < n
    · skip
      have hlL : k < l.length := by rw [HL.out]; exact hlt
      obtain ⟨z, hz⟩ : ∃ z, l[k]'hlL = z := ⟨_, rfl⟩
      obtain ⟨b1, o1, rfl, hb1, r1⟩ := (HA.out.ext hx.out).elem insC_len hlL z hz
      have c0 : World.cell? wr ⟨b1, o1 + k * 4, none⟩ = some (.int .i64 z.op) := r1 0 _ rfl
      have c1 : World.cell? wr ⟨b1, o1 + k * 4 + 1, none⟩ = some (.int .i64 z.a) := r1 1 _ rfl
      have c2 : World.cell? wr ⟨b1, o1 + k * 4 + 2, none⟩ = some (.int .i64 z.b) := r1 2 _ rfl
      have c3 : World.cell? wr ⟨b1, o1 + k * 4 + 3, none⟩ = some (.int .i64 z.c) := r1 3 _ rfl
      have HTK := hid (linesL_take hlL)
      rw [hz] at HTK
      clear r1 hz
      have hk0 : (0 : Int) ≤ (k : Int) := by omega
      have hk1 : (k : Int) < (n : Int) := by omega
      have hpl : (linesL (l.take k)).length ≤ 61000 := by
        have h1 := linesL_len (l.take k)
        rw [List.length_take] at h1
        omega
      obtain ⟨pl, hple⟩ : ∃ t, linesL (l.take k) = t := ⟨_, rfl⟩
      rw [hple] at hpl HTK ⊢
      clear hple
      have HTX : Hid (∀ W, Ext w W → Calls Tryd.prog 15 #[.agg #[.int .i64 z.op, .int .i64 z.a, .int .i64 z.b, .int .i64 z.c]] W fun e w' => e = .returned (.string ⟨(textL z.op z.a z.b z.c).toArray⟩) ∧ Ext W w') := hid (fun W hx => rtext_ z.op z.a z.b z.c W (HT.out.ext hx))
      cases hri : rightI z.op z.a z.b z.c with
      | false =>
        have hll : lineL z = [] := by unfold lineL; rw [if_neg (by show ¬ rightI z.op z.a z.b z.c = true; rw [hri]; decide)]
        have htx : textL z.op z.a z.b z.c = [] := by unfold textL; rw [if_neg (by rw [hri]; decide)]
        have HTK2 : Hid (linesL (l.take (k + 1)) = pl) := hid (by rw [HTK.out, hll, List.append_nil])
        have HTX : Hid (∀ W, Ext w W → Calls Tryd.prog 15 #[.agg #[.int .i64 z.op, .int .i64 z.a, .int .i64 z.b, .int .i64 z.c]] W fun e w' => e = .returned (.string ⟨#[]⟩) ∧ Ext W w') := hid (fun W hx => by have h := HTX.out W hx; rw [htx] at h; exact h)
        clear hri hll htx
        have he0 : (⟨#[]⟩ : ByteArray).toList.isEmpty = true := by rw [ByteArray.toList_eq]; rfl
        go_wp2_with fail
        refine Calls.mono (HTX.out _ HXX.out) ?_
        rintro e W2 ⟨rfl, hy⟩
        have HX2 := hid (HXX.out.trans hy)
        clear hy
        go_wp2
        go_roundw
        case rel => exact ⟨k + 1, by omega, by rw [HTK2.out], by go_num, HX2⟩
        case measure => simp [intOf]; omega
      | true =>
        have hll : lineL z = textL z.op z.a z.b z.c ++ [10] := by unfold lineL; rw [if_pos (show z.ok = true from hri)]; rfl
        have hne := text_ne (x := z) hri
        have htl := textL_len z.op z.a z.b z.c
        obtain ⟨tl, htle⟩ : ∃ t, textL z.op z.a z.b z.c = t := ⟨_, rfl⟩
        rw [show z.text = tl from htle] at hne
        rw [htle] at hll HTX htl
        have HLL : Hid (linesL (l.take (k + 1)) = pl ++ (tl ++ [10])) := hid (by rw [HTK.out, hll])
        obtain ⟨tB, htB⟩ : ∃ z : ByteArray, (⟨tl.toArray⟩ : ByteArray) = z := ⟨_, rfl⟩
        have hem : tB.toList.isEmpty = false := by
          rw [← htB, ByteArray.toList_eq]
          cases tl with
          | nil => exact absurd rfl hne
          | cons q r => rfl
        have hs1 : tB.size = tl.length := by rw [← htB]; show tl.toArray.size = _; rw [List.size_toArray]
        have hs2 : (⟨pl.toArray⟩ : ByteArray).size = pl.length := by show pl.toArray.size = _; rw [List.size_toArray]
        have hcat : (⟨pl.toArray⟩ : ByteArray) ++ tB = ⟨(pl ++ tl).toArray⟩ := by rw [← htB]; exact bstr_app pl tl
        rw [htB] at HTX
        clear htB
        clear hri hll htle hne
        go_wp2_with fail
        refine Calls.mono (HTX.out _ HXX.out) ?_
        rintro e W2 ⟨rfl, hy⟩
        have HX2 := hid (HXX.out.trans hy)
        have hs3 : (⟨(pl ++ tl).toArray⟩ : ByteArray).size = pl.length + tl.length := by show (pl ++ tl).toArray.size = _; rw [List.size_toArray, List.length_append]
        clear hy
        go_wp2
        go_roundw
        case rel => exact ⟨k + 1, by omega, by rw [HLL.out, ← List.append_assoc, ← bstr_app (pl ++ tl) [10]], by go_num, HX2⟩
        case measure => simp [intOf]; omega
    · obtain rfl : k = n := by omega
      have hk1 : ¬ (k : Int) < (k : Int) := by omega
      rw [List.take_of_length_le (by rw [HL.out]; exact Nat.le_refl _)]
      go_wp2
      go_ret
      exact ⟨rfl, HXX.out⟩

end Go.Proofs.YtdhpbofpomefoaaDoor
