/- Layer 3: the same bytes. -/
import Derived.Test.YtmlginnnhlmoeaaEncB
import Derived.Test.YtmlginnnhlmoeaaEncC
import Derived.Test.YtmlginnnhlmoeaaStep
import Derived.Laws.StructEq
namespace Go.Proofs.Ytmlginnnhlmoeaa
set_option linter.unusedSimpArgs false
set_option linter.unusedVariables false
open Go.RowKit


theorem str_beq {l m : List Int} (hl : byteL l) (hm : byteL m) : ((strOf l).toList == (strOf m).toList) = decide (l = m) := by
  rw [Bool.eq_iff_iff, beq_iff_eq, decide_eq_true_iff]
  exact ⟨fun h => strOf_inj hl hm (ByteArray.ext (Array.toList_inj.1 (by rw [ByteArray.toList_eq, ByteArray.toList_eq] at h; exact h))), fun h => by rw [h]⟩
set_option maxHeartbeats 400000 in
theorem equal_ (A B : Option Addr) (n m ca cb : Nat) (l k : List Int) (w : World) (hA : RdB w A l) (hB : RdB w B k) (hA0 : l = [] → A = none) (hB0 : k = [] → B = none) (hn : n = l.length) (hm : m = k.length) :
    Calls Try.prog 23 #[.slice A n ca, .slice B m cb] w fun e w' => e = .returned (.bool ((strOf l).toList == (strOf k).toList)) ∧ w = w' := by
  have HA := hid hA
  have HB := hid hB
  have HA0 := hid hA0
  have HB0 := hid hB0
  subst hn
  subst hm
  clear hA hB hA0 hB0
  go_enter Try.func23, Try.ntmps23
  go_wp2
  rw [run_str_any w 24 9 5 Try.underlying24 Try.underlying5 Try.underlying9 A ca l HA.out HA0.out]
  go_wp2
  rw [run_str_any w 24 9 5 Try.underlying24 Try.underlying5 Try.underlying9 B cb k HB.out HB0.out]
  go_wp2
  go_ret
  exact ⟨rfl, rfl⟩


end Go.Proofs.Ytmlginnnhlmoeaa
