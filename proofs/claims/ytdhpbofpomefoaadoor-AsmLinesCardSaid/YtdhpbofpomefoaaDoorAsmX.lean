/- Layer 16: asm.Lines. -/
import Derived.Test.YtdhpbofpomefoaaDoorAsmX0
namespace Go.Proofs.YtdhpbofpomefoaaDoor
set_option linter.unusedSimpArgs false
set_option linter.unusedVariables false
open Go.RowKit

set_option maxRecDepth 100000 in
set_option maxHeartbeats 4000000 in
theorem alines_ (A : Option Addr) (n ca : Nat) (l : List In) (w : World) (hl : l.length = n) (hA : RdF insC w A l) (hn : n ≤ 1000) (ht : Tb w) :
    Calls Tryd.prog 18 #[.slice A n ca] w fun e w' => e = .returned (.string ⟨(linesL l).toArray⟩) ∧ Ext w w' := by
  have HT := hid ht
  have HA := hid hA
  have HL := hid hl
  clear hA hl ht
  go_enter Tryd.func18, Tryd.ntmps18
  go_upto_region 2 with (fail)
  have hI0 := Lib.fresh_isBuilder 61 5 w
  refine wp_gen (fun V => Hid (Ext w V) ∧ Hid (Lib.IsBuilder 61 5 w.heap.size w.heap.size (Lib.byteCells (linesL (l.take 0))) V)) ⟨hid (by repeat (first | (with_reducible exact Ext.refl _) | (with_reducible refine Ext.undrew ?_) | (with_reducible refine Ext.grow ?_ _) | (with_reducible refine Ext.drew ?_) | (with_reducible refine Ext.drewN ?_ _) | (with_reducible refine Ext.alloc ?_ _) | (with_reducible assumption) | ((with_reducible refine Ext.setCell ?_ ?_ _); rotate_left; (first | exact Nat.le_refl _ | ((try dsimp only); (try simp only [World.size_alloc, grow_size, World.size_setCell]); omega))))), hid hI0⟩ ?_
  clear hI0
  rintro V0 ⟨HX0, HI0⟩
  obtain ⟨bb, hbb⟩ : ∃ z, w.heap.size = z := ⟨_, rfl⟩
  have HBB := hid hbb
  rw [hbb] at HI0 ⊢
  clear hbb
  go_wp2
  go_loopw [8] (fun i wr => ∃ k : Nat, k ≤ n ∧ i = .int .i64 k ∧ Hid (Lib.IsBuilder 61 5 bb bb (Lib.byteCells (linesL (l.take k))) wr) ∧ Hid (Ext w wr)) (fun i _ => n - (intOf i).toNat)
  case atStart => exact ⟨0, Nat.zero_le _, rfl, HI0, HX0⟩
  case round =>
    clear HI0 HX0
    obtain ⟨k, hk, rfl, HI, hx⟩ := hrel
    have HXX := hx
    by_cases hlt : k < n
    · skip
      have hlL : k < l.length := by rw [HL.out]; exact hlt
      obtain ⟨z, hz⟩ : ∃ z, l[k]'hlL = z := ⟨_, rfl⟩
      obtain ⟨b1, o1, rfl, hb1, r1⟩ := (HA.out.ext hx.out).elem insC_len hlL z hz
      have c0 : World.cell? wr ⟨b1, o1 + k * 4, none⟩ = some (.int .i64 z.op) := r1 0 _ rfl
      have c1 : World.cell? wr ⟨b1, o1 + k * 4 + 1, none⟩ = some (.int .i64 z.a) := r1 1 _ rfl
      have c2 : World.cell? wr ⟨b1, o1 + k * 4 + 2, none⟩ = some (.int .i64 z.b) := r1 2 _ rfl
      have c3 : World.cell? wr ⟨b1, o1 + k * 4 + 3, none⟩ = some (.int .i64 z.c) := r1 3 _ rfl
      have HTK := hid (linesL_take hlL)
      rw [hz] at HTK
      clear r1 hz
      have hk0 : (0 : Int) ≤ (k : Int) := by omega
      have hk1 : (k : Int) < (n : Int) := by omega
      have hlen : (Lib.byteCells (linesL (l.take k))).length ≤ 61000 := by
        have h1 := linesL_len (l.take k)
        rw [Lib.byteCells_length]
        rw [List.length_take] at h1
        omega
      go_upto_region 5 with (fail)
      refine wp_gen (fun V => Hid (Ext wr V) ∧ Hid (Row V wr.heap.size 0 [.int .i64 z.op, .int .i64 z.a, .int .i64 z.b, .int .i64 z.c])) ⟨hid (by repeat (first | (with_reducible exact Ext.refl _) | (with_reducible refine Ext.undrew ?_) | (with_reducible refine Ext.grow ?_ _) | (with_reducible refine Ext.drew ?_) | (with_reducible refine Ext.drewN ?_ _) | (with_reducible refine Ext.alloc ?_ _) | (with_reducible assumption) | ((with_reducible refine Ext.setCell ?_ ?_ _); rotate_left; (first | exact Nat.le_refl _ | ((try dsimp only); (try simp only [World.size_alloc, grow_size, World.size_setCell]); omega))))), hid (Row.new wr _ _)⟩ ?_
      clear c0 c1 c2 c3 hb1
      rintro V1 ⟨HX1, HR1⟩
      generalize wr.heap.size = xb at HR1 ⊢
      have x0 : World.cell? V1 ⟨xb, 0, none⟩ = some (.int .i64 z.op) := by have := HR1.out.at_ 0 _ rfl; simpa using this
      have x1 : World.cell? V1 ⟨xb, 1, none⟩ = some (.int .i64 z.a) := by have := HR1.out.at_ 1 _ rfl; simpa using this
      have x2 : World.cell? V1 ⟨xb, 2, none⟩ = some (.int .i64 z.b) := by have := HR1.out.at_ 2 _ rfl; simpa using this
      have x3 : World.cell? V1 ⟨xb, 3, none⟩ = some (.int .i64 z.c) := by have := HR1.out.at_ 3 _ rfl; simpa using this
      have xl := HR1.out.lt
      cases hri : rightI z.op z.a z.b z.c with
      | false =>
        have hll : lineL z = [] := by unfold lineL; rw [if_neg (by show ¬ rightI z.op z.a z.b z.c = true; rw [hri]; decide)]
        have HC : Hid (∀ W, Calls Tryd.prog 30 #[.agg #[.int .i64 z.op, .int .i64 z.a, .int .i64 z.b, .int .i64 z.c]] W fun e w' => e = .returned (.bool false) ∧ Ext W w') := hid (fun W => by have h := right_ z.op z.a z.b z.c W; rw [hri] at h; exact h)
        have HTK2 : Hid (linesL (l.take (k + 1)) = linesL (l.take k)) := hid (by rw [HTK.out, hll, List.append_nil])
        clear hri hll
        go_wp2_with fail
        refine Calls.mono (HC.out _) ?_
        rintro e W2 ⟨rfl, hy⟩
        have HI2 := hid (isBuilder_ext HI.out (HX1.out.trans hy))
        have HX2 := hid (HXX.out.trans (HX1.out.trans hy))
        clear hy x0 x1 x2 x3 xl
        go_wp2
        go_roundw
        case rel => exact ⟨k + 1, by omega, by go_num, by rw [HTK2.out]; exact HI2, HX2⟩
        case measure => simp [intOf]; omega
      | true =>
        have hll : lineL z = textL z.op z.a z.b z.c ++ [10] := by unfold lineL; rw [if_pos (show z.ok = true from hri)]; rfl
        have HC : Hid (∀ W, Calls Tryd.prog 30 #[.agg #[.int .i64 z.op, .int .i64 z.a, .int .i64 z.b, .int .i64 z.c]] W fun e w' => e = .returned (.bool true) ∧ Ext W w') := hid (fun W => by have h := right_ z.op z.a z.b z.c W; rw [hri] at h; exact h)
        have HTX : Hid (∀ W, Ext w W → Calls Tryd.prog 14 #[.agg #[.int .i64 z.op, .int .i64 z.a, .int .i64 z.b, .int .i64 z.c]] W fun e w' => e = .returned (.string ⟨(textL z.op z.a z.b z.c).toArray⟩) ∧ Ext W w') := hid (fun W hx => text_ z.op z.a z.b z.c W (HT.out.ext hx))
        have htl := textL_len z.op z.a z.b z.c
        obtain ⟨tl, htle⟩ : ∃ t, textL z.op z.a z.b z.c = t := ⟨_, rfl⟩
        rw [htle] at hll HTX htl
        have HLL : Hid (linesL (l.take (k + 1)) = linesL (l.take k) ++ (tl ++ [10])) := hid (by rw [HTK.out, hll])
        clear hri hll htle
        go_wp2_with fail
        refine Calls.mono (HC.out _) ?_
        rintro e W2 ⟨rfl, hy⟩
        have HI2 := hid (isBuilder_ext HI.out (HX1.out.trans hy))
        have HX2 := hid (HXX.out.trans (HX1.out.trans hy))
        have HR2 := hid (HR1.out.ext hy)
        clear hy x0 x1 x2 x3 xl
        have x0 : World.cell? W2 ⟨xb, 0, none⟩ = some (.int .i64 z.op) := by have := HR2.out.at_ 0 _ rfl; simpa using this
        have x1 : World.cell? W2 ⟨xb, 1, none⟩ = some (.int .i64 z.a) := by have := HR2.out.at_ 1 _ rfl; simpa using this
        have x2 : World.cell? W2 ⟨xb, 2, none⟩ = some (.int .i64 z.b) := by have := HR2.out.at_ 2 _ rfl; simpa using this
        have x3 : World.cell? W2 ⟨xb, 3, none⟩ = some (.int .i64 z.c) := by have := HR2.out.at_ 3 _ rfl; simpa using this
        have xl := HR2.out.lt
        go_wp2_with fail
        refine Calls.mono (HTX.out _ HX2.out) ?_
        rintro e W3 ⟨rfl, hy⟩
        have HI3 := hid (isBuilder_ext HI2.out hy)
        have HX3 := hid (HX2.out.trans hy)
        have hsl : ((⟨tl.toArray⟩ : ByteArray).size) = tl.length := by show tl.toArray.size = _; rw [List.size_toArray]
        have hcat : (⟨tl.toArray⟩ : ByteArray) ++ (⟨#[10]⟩ : ByteArray) = ⟨(tl ++ [10]).toArray⟩ := bstr_app tl [10]
        have hov : ¬ (9223372036854775807 : Int) < ((tl.length : Nat) : Int) + 1 := by omega
        clear hy x0 x1 x2 x3 xl HI HI2 HX1 HX2
        go_wp2_with fail
        have hss : (⟨(tl ++ [10]).toArray⟩ : ByteArray).size = tl.length + 1 := by show (tl ++ [10]).toArray.size = _; rw [List.size_toArray, List.length_append]; rfl
        have hsz : bb ≤ W3.heap.size := by have := HX3.out.size; have := HBB.out; omega
        refine (writeStr bb bb (Lib.byteCells (linesL (l.take k))) _ W3 HI3.out (by rw [hss]; omega) hsz).mono ?_
        rintro e W4 ⟨rfl, HI4, HB4⟩
        have HI5 : Hid (Lib.IsBuilder 61 5 bb bb (Lib.byteCells (linesL (l.take (k + 1)))) W4) := hid (by
          rw [HLL.out, Lib.byteCells_append]
          exact HI4.out)
        have HX4 : Hid (Ext w W4) := hid (by
          have h1 := HX3.out
          have h2 := HB4.out
          rw [← HBB.out] at h2
          exact Below.trans (show Below w.heap.size w W3 from h1) h2)
        clear hss hsl hcat hov
        go_wp2
        go_roundw
        case rel => exact ⟨k + 1, by omega, by go_num, HI5, HX4⟩
        case measure => simp [intOf]; omega
    · obtain rfl : k = n := by omega
      have hk1 : ¬ (k : Int) < (k : Int) := by omega
      have HI9 : Hid (Lib.IsBuilder 61 5 bb bb (Lib.byteCells (linesL l)) wr) := hid (by have h := HI.out; rw [List.take_of_length_le (by rw [HL.out]; exact Nat.le_refl _)] at h; exact h)
      have hsz : bb ≤ wr.heap.size := by have := HXX.out.size; have := HBB.out; omega
      clear HI
      go_wp2_with fail
      refine Calls.mono (Tryd.Builder_String_any bb bb (linesL l) _ HI9.out hsz) ?_
      rintro e W9 ⟨rfl, hB9⟩
      go_wp2
      go_ret
      refine ⟨rfl, ?_⟩
      have h1 := HXX.out
      rw [← HBB.out] at hB9
      exact Below.trans (show Below w.heap.size w wr from h1) hB9

end Go.Proofs.YtdhpbofpomefoaaDoor
