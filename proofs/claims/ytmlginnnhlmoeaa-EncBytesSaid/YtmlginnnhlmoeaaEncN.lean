/- Layer 3: what is got of bytes. -/
import Derived.Test.YtmlginnnhlmoeaaEncF
import Derived.Test.YtmlginnnhlmoeaaEncM
namespace Go.Proofs.Ytmlginnnhlmoeaa
set_option linter.unusedSimpArgs false
set_option linter.unusedVariables false
open Go.RowKit


theorem num4_four {n : Int} (h : 0 ≤ n ∧ n ≤ 4294967295) : num4 (n / 16777216 % 256) (n / 65536 % 256) (n / 256 % 256) (n % 256) = n := by unfold num4; omega
theorem getL_bytes {t : Bool} {b tp a p ty : Int} (h : rightC ⟨t, b, tp, a, p, ty⟩ = true) (tag : Bool) : getL (bytesC ⟨t, b, tp, a, p, ty⟩) tag = ⟨tag && rightC ⟨true, b, tp, a, p, ty⟩, b, tp, a, p, ty⟩ := by
  obtain ⟨hb, htp, ha, hp, hty⟩ := right_bd h
  have e1 : bareC (bytesC ⟨t, b, tp, a, p, ty⟩) = ⟨false, b, tp, a, p, ty⟩ := by
    rw [bytesC_list, bare_cap, num4_four hb, num4_four htp, num4_four ha]
    rw [show p % 256 % 128 = p by omega, show ty % 256 = ty by omega]
  have e2 : wholeL (bytesC ⟨t, b, tp, a, p, ty⟩) = true := by
    rw [bytesC_list]
    show (decide ((0 : Int) = 0) && decide ((0 : Int) = 0) && decide (p % 256 ≤ 127)) = true
    simp
    omega
  unfold getL tagOf
  rw [e1, e2]
  simp
set_option maxRecDepth 100000 in
set_option maxHeartbeats 400000 in
theorem get_bytes (q ca : Nat) (t : Bool) (b tp a p ty : Int) (tag B : Bool) (w : World) (h : rightC ⟨t, b, tp, a, p, ty⟩ = true) (hB : (tag && rightC ⟨true, b, tp, a, p, ty⟩) = B) (hr : RdB w (some ⟨q, 0, none⟩) (bytesC ⟨t, b, tp, a, p, ty⟩)) (hl : 16 ≤ ca) (hm : ca ≤ maxLen) :
    Calls Try.prog 9 #[.slice (some ⟨q, 0, none⟩) 16 ca, .bool tag] w fun e w' => e = .returned (.tuple #[.agg #[.bool B, .int .i64 b, .int .i64 tp, .int .i64 a, .int .i64 p, .int .i64 ty], .bool true]) ∧ Ext w w' := by
  have e := getL_bytes h tag
  rw [hB] at e
  have G := get_yes q 0 ca (a / 16777216 % 256) (a / 65536 % 256) (a / 256 % 256) (a % 256) (b / 16777216 % 256) (b / 65536 % 256) (b / 256 % 256) (b % 256) (tp / 16777216 % 256) (tp / 65536 % 256) (tp / 256 % 256) (tp % 256) (0) (p % 256) (0) (ty % 256) tag w (by rw [← bytesC_list t b tp a p ty]; exact hr) hl hm (by omega) (by omega) (by omega) (by omega) (by omega) (by omega) (by omega) (by omega) (by omega) (by omega) (by omega) (by omega) (by omega) (by omega) (by omega) (by omega) (by omega) (by omega) (by omega) (by omega) (by omega) (by omega) (by omega) (by omega) (by omega) (by omega) (by omega) (by omega) (by omega) (by omega) (by omega) (by omega)
  rw [← bytesC_list t b tp a p ty, e] at G
  exact G


end Go.Proofs.Ytmlginnnhlmoeaa
