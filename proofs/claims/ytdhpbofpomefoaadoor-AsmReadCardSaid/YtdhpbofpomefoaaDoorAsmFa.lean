/- Layer 16: closed facts of the live question. -/
import Derived.Test.YtdhpbofpomefoaaDoorAsmJ
namespace Go.Proofs.YtdhpbofpomefoaaDoor
set_option linter.unusedSimpArgs false
set_option linter.unusedVariables false
open Go.RowKit

theorem hp_1 : parseN valT ((⟨#[108, 100, 98, 32, 114, 50, 32, 114, 51, 32, 50, 48, 48]⟩ : ByteArray)).data.toList = (⟨11, 2, 3, 200⟩, true) := by decide +kernel
theorem hp_2 : parseN valT ((⟨#[108, 100, 98, 32, 114, 50, 32, 114, 51, 32, 32, 50, 48, 48]⟩ : ByteArray)).data.toList = (noIn, false) := by decide +kernel
theorem hp_3 : parseN valT ((⟨#[109, 111, 118, 105, 32, 114, 49, 32, 43, 49]⟩ : ByteArray)).data.toList = (noIn, false) := by decide +kernel
theorem hr_1 : readL valT [104, 97, 108, 116, 10, 106, 109, 112, 32, 45, 50, 10] = ([⟨0, 0, 0, 0⟩, ⟨9, 0, -2, 0⟩], 2, true) := by decide +kernel
theorem hr_2 : readL valT [104, 97, 108, 116, 10, 104, 97, 108, 116] = ([], 1, false) := by decide +kernel
theorem ht_1 : textL 1 1 (-1) 0 = [109, 111, 118, 105, 32, 114, 49, 32, 45, 49] := by decide +kernel
theorem ht_2 : textL 30 0 0 0 = [] := by decide +kernel
theorem hn_1 : nameL 29 = [115, 121, 115] := by decide +kernel
theorem hn_2 : nameL (-1) = [] := by decide +kernel

end Go.Proofs.YtdhpbofpomefoaaDoor
