/-
  NARROWER THAN 'FOR EVERY INPUT', by the rows' own cells (each row's printed sentence says how): SizeTells: laid · SizeLeast: laid · SizeRises: laid · SizeClasses: laid · SizeSums: laid.
  DERIVED. THE GIVEN ROWS OF THIS SEAT. 5 by the template 'for every input the law returns true; each argument reads behind the call as it read before'; 0 by the template 'total and deterministic' (their statements: YtgnkcinmpinknaaDoorTotals.lean).
  GIVEN WITH THE SEED: the statements are not yours to turn. If you find one false, say at which input.
  Laid BY PROGRAM, IN A SANDBOX (cutbox-rows.mjs): the forced cells as the released guide's own fill.sh prints them over the translation 95baf9d904c28b8e… (all of the seat's roots in one cut). By AI agents, Wed Nov 11 2026. No macro, syntax, notation, axiom, sorry.
-/
import Derived.Test.YtgnkcinmpinknaaDoorChecked
import GoSem.Claim
import GoSem.ClaimJoined
import GoSem.ClaimMapViews
import Derived.JoinedTies
import Derived.KernelRfl
namespace Go.Proofs.YtgnkcinmpinknaaDoor
/- THE CELL 'sum', in the pinned program and in every row, IS THE sha256 OF THE DUMP (.gsa) THAT YtgnkcinmpinknaaDoorProg.lean LOADS. Nothing in Lean hashes anything: it is a label: what it is worth is what the hold of that sum in a sandbox is worth. -/
noncomputable def Tryd.pinned : Pinned := { name := "ytgnkcinmpinknaadoor", sum := "95baf9d904c28b8e5b1e17ab8d9f3b1cf6c3f9ce692b195feb45e09c01bce3c2", checked := Tryd.checked }
namespace Rows
def none {H : Type} : Left H := { results := [], args := [] }

/- WHAT THE LISTED PACKAGE-LEVEL VARIABLES READ AS WHEN THE CALL BEGINS. Each datum BY PROGRAM (the guide's laid-datum.mjs) off the statement by which the dump's own 'gosem.cut.vars' lays the variable. In a bare row this is a premise. The card (YtgnkcinmpinknaaDoorCards.lean) ties it to the program's text. -/
def laid_seizin_size_table {H : Type} : DataW H := .agg [.lit (.int .i64 16), .lit (.int .i64 32), .lit (.int .i64 48), .lit (.int .i64 64), .lit (.int .i64 80), .lit (.int .i64 96), .lit (.int .i64 112), .lit (.int .i64 128), .lit (.int .i64 192), .lit (.int .i64 256), .lit (.int .i64 384), .lit (.int .i64 512), .lit (.int .i64 768), .lit (.int .i64 1024)]

/-- 'seizinlaw11.SizeTells': WHATEVER THE INPUT: true; the input reads as it did. -/
def sizeTellsSpec : ChangeSpec := { name := "sizeTells", fn := fun _ => fun
  | [d] => { results := [.lit (.bool true)], args := [d] }
  | _ => none }
def sizeTellsRow : OpenClaim := { program := "ytgnkcinmpinknaadoor", sum := "95baf9d904c28b8e5b1e17ab8d9f3b1cf6c3f9ce692b195feb45e09c01bce3c2", func := "seizin/seizinlaw11.SizeTells", spec := "sizeTells", named := ["seizin/size.table"], apart := false, laid := [("seizin/size.table", laid_seizin_size_table)] }
def SizeTellsSaid : Prop := sizeTellsRow.holds Tryd.pinned (OpenSpec.ofChange sizeTellsSpec)

/-- ITS FALSE NEIGHBOUR: 'it returns false'. Refute it at one input. -/
def sizeTellsWrong : ChangeSpec := { name := "sizeTells", fn := fun _ => fun
  | [d] => { results := [.lit (.bool false)], args := [d] }
  | _ => none }
def SizeTellsWrongFalsely : Prop := sizeTellsRow.holds Tryd.pinned (OpenSpec.ofChange sizeTellsWrong)

/-- 'seizinlaw11.SizeLeast': WHATEVER THE INPUT: true; the input reads as it did. -/
def sizeLeastSpec : ChangeSpec := { name := "sizeLeast", fn := fun _ => fun
  | [d] => { results := [.lit (.bool true)], args := [d] }
  | _ => none }
def sizeLeastRow : OpenClaim := { program := "ytgnkcinmpinknaadoor", sum := "95baf9d904c28b8e5b1e17ab8d9f3b1cf6c3f9ce692b195feb45e09c01bce3c2", func := "seizin/seizinlaw11.SizeLeast", spec := "sizeLeast", named := ["seizin/size.table"], apart := false, laid := [("seizin/size.table", laid_seizin_size_table)] }
def SizeLeastSaid : Prop := sizeLeastRow.holds Tryd.pinned (OpenSpec.ofChange sizeLeastSpec)

/-- ITS FALSE NEIGHBOUR: 'it returns false'. Refute it at one input. -/
def sizeLeastWrong : ChangeSpec := { name := "sizeLeast", fn := fun _ => fun
  | [d] => { results := [.lit (.bool false)], args := [d] }
  | _ => none }
def SizeLeastWrongFalsely : Prop := sizeLeastRow.holds Tryd.pinned (OpenSpec.ofChange sizeLeastWrong)

/-- 'seizinlaw11.SizeRises': WHATEVER THE INPUT: true; the input reads as it did. -/
def sizeRisesSpec : ChangeSpec := { name := "sizeRises", fn := fun _ => fun
  | [d1, d2] => { results := [.lit (.bool true)], args := [d1, d2] }
  | _ => none }
def sizeRisesRow : OpenClaim := { program := "ytgnkcinmpinknaadoor", sum := "95baf9d904c28b8e5b1e17ab8d9f3b1cf6c3f9ce692b195feb45e09c01bce3c2", func := "seizin/seizinlaw11.SizeRises", spec := "sizeRises", named := ["seizin/size.table"], apart := false, laid := [("seizin/size.table", laid_seizin_size_table)] }
def SizeRisesSaid : Prop := sizeRisesRow.holds Tryd.pinned (OpenSpec.ofChange sizeRisesSpec)

/-- ITS FALSE NEIGHBOUR: 'it returns false'. Refute it at one input. -/
def sizeRisesWrong : ChangeSpec := { name := "sizeRises", fn := fun _ => fun
  | [d1, d2] => { results := [.lit (.bool false)], args := [d1, d2] }
  | _ => none }
def SizeRisesWrongFalsely : Prop := sizeRisesRow.holds Tryd.pinned (OpenSpec.ofChange sizeRisesWrong)

/-- 'seizinlaw11.SizeClasses': WHATEVER THE INPUT: true; the input reads as it did. -/
def sizeClassesSpec : ChangeSpec := { name := "sizeClasses", fn := fun _ => fun
  | [d] => { results := [.lit (.bool true)], args := [d] }
  | _ => none }
def sizeClassesRow : OpenClaim := { program := "ytgnkcinmpinknaadoor", sum := "95baf9d904c28b8e5b1e17ab8d9f3b1cf6c3f9ce692b195feb45e09c01bce3c2", func := "seizin/seizinlaw11.SizeClasses", spec := "sizeClasses", named := ["seizin/size.table"], apart := false, laid := [("seizin/size.table", laid_seizin_size_table)] }
def SizeClassesSaid : Prop := sizeClassesRow.holds Tryd.pinned (OpenSpec.ofChange sizeClassesSpec)

/-- ITS FALSE NEIGHBOUR: 'it returns false'. Refute it at one input. -/
def sizeClassesWrong : ChangeSpec := { name := "sizeClasses", fn := fun _ => fun
  | [d] => { results := [.lit (.bool false)], args := [d] }
  | _ => none }
def SizeClassesWrongFalsely : Prop := sizeClassesRow.holds Tryd.pinned (OpenSpec.ofChange sizeClassesWrong)

/-- 'seizinlaw11.SizeSums': WHATEVER THE INPUT: true; the input reads as it did. -/
def sizeSumsSpec : ChangeSpec := { name := "sizeSums", fn := fun _ => fun
  | [d1, d2] => { results := [.lit (.bool true)], args := [d1, d2] }
  | _ => none }
def sizeSumsRow : OpenClaim := { program := "ytgnkcinmpinknaadoor", sum := "95baf9d904c28b8e5b1e17ab8d9f3b1cf6c3f9ce692b195feb45e09c01bce3c2", func := "seizin/seizinlaw11.SizeSums", spec := "sizeSums", named := ["seizin/size.table"], apart := false, laid := [("seizin/size.table", laid_seizin_size_table)] }
def SizeSumsSaid : Prop := sizeSumsRow.holds Tryd.pinned (OpenSpec.ofChange sizeSumsSpec)

/-- ITS FALSE NEIGHBOUR: 'it returns false'. Refute it at one input. -/
def sizeSumsWrong : ChangeSpec := { name := "sizeSums", fn := fun _ => fun
  | [d1, d2] => { results := [.lit (.bool false)], args := [d1, d2] }
  | _ => none }
def SizeSumsWrongFalsely : Prop := sizeSumsRow.holds Tryd.pinned (OpenSpec.ofChange sizeSumsWrong)

/- THE SECOND FORM. 'bulk': how many values and letters a reading holds, each counted each time it is reached (what is shared counts as often as it is met; a slice's spare places count too). A statement '..UptoSaid' is the law's where the arguments, and the package variables that the reading takes, are together of bulk at most 1048576: NARROWER than '..Said'. Prove '..Said' where nothing that the law and all that it calls make is longer than what came in: it says more and counts as full. Else prove '..UptoSaid'. A law counts once. -/
mutual
def uptoBulk {H : Type} : DataW H → Nat
  | .lit (.string bytes) => bytes.length + 1
  | .lit _ => 1
  | .nil => 1
  | .ptr d => uptoBulk d + 1
  | .slice elems spare => uptoBulkAll elems + uptoBulkAll spare + 1
  | .agg parts => uptoBulkAll parts + 1
  | .iface _ d => uptoBulk d + 1
  | .map entries => uptoBulkEntries entries + 1
  | .held _ => 1
def uptoBulkAll {H : Type} : List (DataW H) → Nat
  | [] => 0
  | d :: r => uptoBulk d + uptoBulkAll r
def uptoBulkEntries {H : Type} : List (Lit × DataW H) → Nat
  | [] => 0
  | x :: r => uptoBulkEntry x + uptoBulkEntries r
def uptoBulkEntry {H : Type} : Lit × DataW H → Nat
  | (.string bytes, d) => bytes.length + uptoBulk d + 1
  | (_, d) => uptoBulk d + 1
 end
def uptoSmall : (H : Type) → List (DataW H) → Bool := fun _ ds => decide (uptoBulkAll ds ≤ 1048576)
def OpenSpec.upto (s : _root_.Go.ChangeSpec) : _root_.Go.OpenSpec := { _root_.Go.OpenSpec.ofChange s with cond := some uptoSmall }

/-- 'seizinlaw11.SizeTells', WHERE WHAT IT READS IS OF BULK AT MOST 1048576: true; the input reads as it did. -/
def sizeTellsUptoRow : OpenClaim := { program := "ytgnkcinmpinknaadoor", sum := "95baf9d904c28b8e5b1e17ab8d9f3b1cf6c3f9ce692b195feb45e09c01bce3c2", func := "seizin/seizinlaw11.SizeTells", spec := "sizeTells", named := ["seizin/size.table"], apart := false, laid := [("seizin/size.table", laid_seizin_size_table)], narrowed := true }
def SizeTellsUptoSaid : Prop := sizeTellsUptoRow.holds Tryd.pinned (OpenSpec.upto sizeTellsSpec)

/-- 'seizinlaw11.SizeLeast', WHERE WHAT IT READS IS OF BULK AT MOST 1048576: true; the input reads as it did. -/
def sizeLeastUptoRow : OpenClaim := { program := "ytgnkcinmpinknaadoor", sum := "95baf9d904c28b8e5b1e17ab8d9f3b1cf6c3f9ce692b195feb45e09c01bce3c2", func := "seizin/seizinlaw11.SizeLeast", spec := "sizeLeast", named := ["seizin/size.table"], apart := false, laid := [("seizin/size.table", laid_seizin_size_table)], narrowed := true }
def SizeLeastUptoSaid : Prop := sizeLeastUptoRow.holds Tryd.pinned (OpenSpec.upto sizeLeastSpec)

/-- 'seizinlaw11.SizeRises', WHERE WHAT IT READS IS OF BULK AT MOST 1048576: true; the input reads as it did. -/
def sizeRisesUptoRow : OpenClaim := { program := "ytgnkcinmpinknaadoor", sum := "95baf9d904c28b8e5b1e17ab8d9f3b1cf6c3f9ce692b195feb45e09c01bce3c2", func := "seizin/seizinlaw11.SizeRises", spec := "sizeRises", named := ["seizin/size.table"], apart := false, laid := [("seizin/size.table", laid_seizin_size_table)], narrowed := true }
def SizeRisesUptoSaid : Prop := sizeRisesUptoRow.holds Tryd.pinned (OpenSpec.upto sizeRisesSpec)

/-- 'seizinlaw11.SizeClasses', WHERE WHAT IT READS IS OF BULK AT MOST 1048576: true; the input reads as it did. -/
def sizeClassesUptoRow : OpenClaim := { program := "ytgnkcinmpinknaadoor", sum := "95baf9d904c28b8e5b1e17ab8d9f3b1cf6c3f9ce692b195feb45e09c01bce3c2", func := "seizin/seizinlaw11.SizeClasses", spec := "sizeClasses", named := ["seizin/size.table"], apart := false, laid := [("seizin/size.table", laid_seizin_size_table)], narrowed := true }
def SizeClassesUptoSaid : Prop := sizeClassesUptoRow.holds Tryd.pinned (OpenSpec.upto sizeClassesSpec)

/-- 'seizinlaw11.SizeSums', WHERE WHAT IT READS IS OF BULK AT MOST 1048576: true; the input reads as it did. -/
def sizeSumsUptoRow : OpenClaim := { program := "ytgnkcinmpinknaadoor", sum := "95baf9d904c28b8e5b1e17ab8d9f3b1cf6c3f9ce692b195feb45e09c01bce3c2", func := "seizin/seizinlaw11.SizeSums", spec := "sizeSums", named := ["seizin/size.table"], apart := false, laid := [("seizin/size.table", laid_seizin_size_table)], narrowed := true }
def SizeSumsUptoSaid : Prop := sizeSumsUptoRow.holds Tryd.pinned (OpenSpec.upto sizeSumsSpec)

end Rows
end Go.Proofs.YtgnkcinmpinknaaDoor
