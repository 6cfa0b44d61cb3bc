/- Layer 16: values for AsmUnlike. -/
import Derived.Test.YtdhpbofpomefoaaDoorAsmN
import Derived.Test.YtdhpbofpomefoaaDoorAsmH0
import Derived.Test.YtdhpbofpomefoaaDoorAsmI
namespace Go.Proofs.YtdhpbofpomefoaaDoor
set_option linter.unusedSimpArgs false
set_option linter.unusedVariables false
open Go.RowKit

/-- What is asked of a text and a name. -/
theorem text_head {op a b c : Int} (h : rightI op a b c = true) : ∃ r, textL op a b c = nameL op ++ r := ⟨joinW (argsW op a b c), by unfold textL; rw [if_pos h]⟩
theorem ext_name {n r : List UInt8} : (⟨(n ++ r).toArray⟩ : ByteArray).extract 0 (⟨n.toArray⟩ : ByteArray).size = ⟨n.toArray⟩ := by
  show (⟨(n ++ r).toArray⟩ : ByteArray).extract 0 n.toArray.size = _
  rw [List.size_toArray, ext_take]
  simp
theorem text_ne_of {x y : In} (hx : x.ok = true) (hy : y.ok = true) (h : ¬ x = y) : ¬ textL x.op x.a x.b x.c = textL y.op y.a y.b y.c := fun e => h (text_inj hx hy e)

end Go.Proofs.YtdhpbofpomefoaaDoor
