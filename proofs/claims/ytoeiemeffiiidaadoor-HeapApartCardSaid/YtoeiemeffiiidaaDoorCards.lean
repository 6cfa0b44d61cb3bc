/-
  DERIVED. GIVEN WITH THE SEED: THE CARDS: each row of YtoeiemeffiiidaaDoorRows.lean that lists a variable, with what it lists TIED to the program's text (the seventh form; the later family's looks); each row that meets fmt, with fmt's text TOLD by the authors' own Lean function (tested against real Go, not proved from fmt's source: count such statements apart). THE CARD IS WHAT COUNTS. Prove the row's statement (the work); the ties are given (YtoeiemeffiiidaaDoorTie.lean); close each card by the builder's one call (the guide's Derived/Test/ToyasCard.lean, 'card_holds'). Laid BY PROGRAM, IN A SANDBOX (cutbox-door.mjs). By AI agents, Wed Nov 11 2026. No macro, syntax, notation, axiom, sorry.
-/
import Derived.Test.YtoeiemeffiiidaaDoorRows
import GoSem.ClaimSeven
namespace Go.Proofs.YtoeiemeffiiidaaDoor
namespace Rows

/-- THE TIED CARD OF 'seizinlaw14.HeapApart'. -/
def heapApartCard : Claim7 := { stood := { row := heapApartRow, standIns := [], harness := (true, "ef0546c82b3cfbeff6d27571be20f371c92596e54195736dc99b8d73cdee5f87"), looks := false }, kinds := [], alts := [], laidByText := true, laidKinds := [.data], laidTests := true, laidLooks := .later }
def HeapApartCardSaid : Prop := Claim7.holds Tryd.pinned (.plain (OpenSpec.ofChange heapApartSpec)) heapApartCard

/-- THE TIED CARD OF 'seizinlaw14.HeapSums'. -/
def heapSumsCard : Claim7 := { stood := { row := heapSumsRow, standIns := [], harness := (true, "ef0546c82b3cfbeff6d27571be20f371c92596e54195736dc99b8d73cdee5f87"), looks := false }, kinds := [], alts := [], laidByText := true, laidKinds := [.data], laidTests := true, laidLooks := .later }
def HeapSumsCardSaid : Prop := Claim7.holds Tryd.pinned (.plain (OpenSpec.ofChange heapSumsSpec)) heapSumsCard

/-- THE TIED CARD OF 'seizinlaw14.HeapOnce'. -/
def heapOnceCard : Claim7 := { stood := { row := heapOnceRow, standIns := [], harness := (true, "ef0546c82b3cfbeff6d27571be20f371c92596e54195736dc99b8d73cdee5f87"), looks := false }, kinds := [], alts := [], laidByText := true, laidKinds := [.data], laidTests := true, laidLooks := .later }
def HeapOnceCardSaid : Prop := Claim7.holds Tryd.pinned (.plain (OpenSpec.ofChange heapOnceSpec)) heapOnceCard

/-- THE TIED CARD OF 'seizinlaw14.HeapAgain'. -/
def heapAgainCard : Claim7 := { stood := { row := heapAgainRow, standIns := [], harness := (true, "ef0546c82b3cfbeff6d27571be20f371c92596e54195736dc99b8d73cdee5f87"), looks := false }, kinds := [], alts := [], laidByText := true, laidKinds := [.data], laidTests := true, laidLooks := .later }
def HeapAgainCardSaid : Prop := Claim7.holds Tryd.pinned (.plain (OpenSpec.ofChange heapAgainSpec)) heapAgainCard

/-- THE TIED CARD OF 'seizinlaw14.HeapSizes'. -/
def heapSizesCard : Claim7 := { stood := { row := heapSizesRow, standIns := [], harness := (true, "ef0546c82b3cfbeff6d27571be20f371c92596e54195736dc99b8d73cdee5f87"), looks := false }, kinds := [], alts := [], laidByText := true, laidKinds := [.data], laidTests := true, laidLooks := .later }
def HeapSizesCardSaid : Prop := Claim7.holds Tryd.pinned (.plain (OpenSpec.ofChange heapSizesSpec)) heapSizesCard

/-- THE SECOND FORM's CARD OF 'seizinlaw14.HeapApart'. -/
def heapApartUptoCard : Claim7 := { stood := { row := heapApartUptoRow, standIns := [], harness := (true, "ef0546c82b3cfbeff6d27571be20f371c92596e54195736dc99b8d73cdee5f87"), looks := false }, kinds := [], alts := [], laidByText := true, laidKinds := [.data], laidTests := true, laidLooks := .later }
def HeapApartUptoCardSaid : Prop := Claim7.holds Tryd.pinned (.plain (OpenSpec.upto heapApartSpec)) heapApartUptoCard

/-- THE SECOND FORM's CARD OF 'seizinlaw14.HeapSums'. -/
def heapSumsUptoCard : Claim7 := { stood := { row := heapSumsUptoRow, standIns := [], harness := (true, "ef0546c82b3cfbeff6d27571be20f371c92596e54195736dc99b8d73cdee5f87"), looks := false }, kinds := [], alts := [], laidByText := true, laidKinds := [.data], laidTests := true, laidLooks := .later }
def HeapSumsUptoCardSaid : Prop := Claim7.holds Tryd.pinned (.plain (OpenSpec.upto heapSumsSpec)) heapSumsUptoCard

/-- THE SECOND FORM's CARD OF 'seizinlaw14.HeapOnce'. -/
def heapOnceUptoCard : Claim7 := { stood := { row := heapOnceUptoRow, standIns := [], harness := (true, "ef0546c82b3cfbeff6d27571be20f371c92596e54195736dc99b8d73cdee5f87"), looks := false }, kinds := [], alts := [], laidByText := true, laidKinds := [.data], laidTests := true, laidLooks := .later }
def HeapOnceUptoCardSaid : Prop := Claim7.holds Tryd.pinned (.plain (OpenSpec.upto heapOnceSpec)) heapOnceUptoCard

/-- THE SECOND FORM's CARD OF 'seizinlaw14.HeapAgain'. -/
def heapAgainUptoCard : Claim7 := { stood := { row := heapAgainUptoRow, standIns := [], harness := (true, "ef0546c82b3cfbeff6d27571be20f371c92596e54195736dc99b8d73cdee5f87"), looks := false }, kinds := [], alts := [], laidByText := true, laidKinds := [.data], laidTests := true, laidLooks := .later }
def HeapAgainUptoCardSaid : Prop := Claim7.holds Tryd.pinned (.plain (OpenSpec.upto heapAgainSpec)) heapAgainUptoCard

/-- THE SECOND FORM's CARD OF 'seizinlaw14.HeapSizes'. -/
def heapSizesUptoCard : Claim7 := { stood := { row := heapSizesUptoRow, standIns := [], harness := (true, "ef0546c82b3cfbeff6d27571be20f371c92596e54195736dc99b8d73cdee5f87"), looks := false }, kinds := [], alts := [], laidByText := true, laidKinds := [.data], laidTests := true, laidLooks := .later }
def HeapSizesUptoCardSaid : Prop := Claim7.holds Tryd.pinned (.plain (OpenSpec.upto heapSizesSpec)) heapSizesUptoCard
end Rows
end Go.Proofs.YtoeiemeffiiidaaDoor
