/-
  DERIVED. GIVEN WITH THE SEED: THE CARDS: each row of YtgnkcinmpinknaaDoorRows.lean that lists a variable, with what it lists TIED to the program's text (the seventh form; the later family's looks); each row that meets fmt, with fmt's text TOLD by the authors' own Lean function (tested against real Go, not proved from fmt's source: count such statements apart). THE CARD IS WHAT COUNTS. Prove the row's statement (the work); the ties are given (YtgnkcinmpinknaaDoorTie.lean); close each card by the builder's one call (the guide's Derived/Test/ToyasCard.lean, 'card_holds'). Laid BY PROGRAM, IN A SANDBOX (cutbox-door.mjs). By AI agents, Wed Nov 11 2026. No macro, syntax, notation, axiom, sorry.
-/
import Derived.Test.YtgnkcinmpinknaaDoorRows
import GoSem.ClaimSeven
namespace Go.Proofs.YtgnkcinmpinknaaDoor
namespace Rows

/-- THE TIED CARD OF 'seizinlaw11.SizeTells'. -/
def sizeTellsCard : Claim7 := { stood := { row := sizeTellsRow, standIns := [], harness := (true, "56262aa5b7a25929e9411273189cba28268342a4b48a576894de8b08184e7026"), looks := false }, kinds := [], alts := [], laidByText := true, laidKinds := [.data], laidTests := true, laidLooks := .later }
def SizeTellsCardSaid : Prop := Claim7.holds Tryd.pinned (.plain (OpenSpec.ofChange sizeTellsSpec)) sizeTellsCard

/-- THE TIED CARD OF 'seizinlaw11.SizeLeast'. -/
def sizeLeastCard : Claim7 := { stood := { row := sizeLeastRow, standIns := [], harness := (true, "56262aa5b7a25929e9411273189cba28268342a4b48a576894de8b08184e7026"), looks := false }, kinds := [], alts := [], laidByText := true, laidKinds := [.data], laidTests := true, laidLooks := .later }
def SizeLeastCardSaid : Prop := Claim7.holds Tryd.pinned (.plain (OpenSpec.ofChange sizeLeastSpec)) sizeLeastCard

/-- THE TIED CARD OF 'seizinlaw11.SizeRises'. -/
def sizeRisesCard : Claim7 := { stood := { row := sizeRisesRow, standIns := [], harness := (true, "56262aa5b7a25929e9411273189cba28268342a4b48a576894de8b08184e7026"), looks := false }, kinds := [], alts := [], laidByText := true, laidKinds := [.data], laidTests := true, laidLooks := .later }
def SizeRisesCardSaid : Prop := Claim7.holds Tryd.pinned (.plain (OpenSpec.ofChange sizeRisesSpec)) sizeRisesCard

/-- THE TIED CARD OF 'seizinlaw11.SizeClasses'. -/
def sizeClassesCard : Claim7 := { stood := { row := sizeClassesRow, standIns := [], harness := (true, "56262aa5b7a25929e9411273189cba28268342a4b48a576894de8b08184e7026"), looks := false }, kinds := [], alts := [], laidByText := true, laidKinds := [.data], laidTests := true, laidLooks := .later }
def SizeClassesCardSaid : Prop := Claim7.holds Tryd.pinned (.plain (OpenSpec.ofChange sizeClassesSpec)) sizeClassesCard

/-- THE TIED CARD OF 'seizinlaw11.SizeSums'. -/
def sizeSumsCard : Claim7 := { stood := { row := sizeSumsRow, standIns := [], harness := (true, "56262aa5b7a25929e9411273189cba28268342a4b48a576894de8b08184e7026"), looks := false }, kinds := [], alts := [], laidByText := true, laidKinds := [.data], laidTests := true, laidLooks := .later }
def SizeSumsCardSaid : Prop := Claim7.holds Tryd.pinned (.plain (OpenSpec.ofChange sizeSumsSpec)) sizeSumsCard

/-- THE SECOND FORM's CARD OF 'seizinlaw11.SizeTells'. -/
def sizeTellsUptoCard : Claim7 := { stood := { row := sizeTellsUptoRow, standIns := [], harness := (true, "56262aa5b7a25929e9411273189cba28268342a4b48a576894de8b08184e7026"), looks := false }, kinds := [], alts := [], laidByText := true, laidKinds := [.data], laidTests := true, laidLooks := .later }
def SizeTellsUptoCardSaid : Prop := Claim7.holds Tryd.pinned (.plain (OpenSpec.upto sizeTellsSpec)) sizeTellsUptoCard

/-- THE SECOND FORM's CARD OF 'seizinlaw11.SizeLeast'. -/
def sizeLeastUptoCard : Claim7 := { stood := { row := sizeLeastUptoRow, standIns := [], harness := (true, "56262aa5b7a25929e9411273189cba28268342a4b48a576894de8b08184e7026"), looks := false }, kinds := [], alts := [], laidByText := true, laidKinds := [.data], laidTests := true, laidLooks := .later }
def SizeLeastUptoCardSaid : Prop := Claim7.holds Tryd.pinned (.plain (OpenSpec.upto sizeLeastSpec)) sizeLeastUptoCard

/-- THE SECOND FORM's CARD OF 'seizinlaw11.SizeRises'. -/
def sizeRisesUptoCard : Claim7 := { stood := { row := sizeRisesUptoRow, standIns := [], harness := (true, "56262aa5b7a25929e9411273189cba28268342a4b48a576894de8b08184e7026"), looks := false }, kinds := [], alts := [], laidByText := true, laidKinds := [.data], laidTests := true, laidLooks := .later }
def SizeRisesUptoCardSaid : Prop := Claim7.holds Tryd.pinned (.plain (OpenSpec.upto sizeRisesSpec)) sizeRisesUptoCard

/-- THE SECOND FORM's CARD OF 'seizinlaw11.SizeClasses'. -/
def sizeClassesUptoCard : Claim7 := { stood := { row := sizeClassesUptoRow, standIns := [], harness := (true, "56262aa5b7a25929e9411273189cba28268342a4b48a576894de8b08184e7026"), looks := false }, kinds := [], alts := [], laidByText := true, laidKinds := [.data], laidTests := true, laidLooks := .later }
def SizeClassesUptoCardSaid : Prop := Claim7.holds Tryd.pinned (.plain (OpenSpec.upto sizeClassesSpec)) sizeClassesUptoCard

/-- THE SECOND FORM's CARD OF 'seizinlaw11.SizeSums'. -/
def sizeSumsUptoCard : Claim7 := { stood := { row := sizeSumsUptoRow, standIns := [], harness := (true, "56262aa5b7a25929e9411273189cba28268342a4b48a576894de8b08184e7026"), looks := false }, kinds := [], alts := [], laidByText := true, laidKinds := [.data], laidTests := true, laidLooks := .later }
def SizeSumsUptoCardSaid : Prop := Claim7.holds Tryd.pinned (.plain (OpenSpec.upto sizeSumsSpec)) sizeSumsUptoCard
end Rows
end Go.Proofs.YtgnkcinmpinknaaDoor
