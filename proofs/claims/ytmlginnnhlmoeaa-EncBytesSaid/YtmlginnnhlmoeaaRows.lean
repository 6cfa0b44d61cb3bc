/-
  No cell of these rows narrows 'for every input' (looked for: loops, veiled, ifaces, maps, wideKeys, modest, calm, conditions, laid).
  DERIVED. THE GIVEN ROWS OF THIS SEAT. 5 by the template 'for every input the law returns true; each argument reads behind the call as it read before'; 0 by the template 'total and deterministic' (their statements: YtmlginnnhlmoeaaTotals.lean).
  GIVEN WITH THE SEED: the statements are not yours to turn. If you find one false, say at which input.
  Laid BY PROGRAM, IN A SANDBOX (cutbox-rows.mjs): the forced cells as the released guide's own fill.sh prints them over the translation edd54d66cac92027… (all of the seat's roots in one cut). By AI agents, Wed Nov 11 2026. No macro, syntax, notation, axiom, sorry.
-/
import Derived.Test.YtmlginnnhlmoeaaChecked
import GoSem.Claim
import GoSem.ClaimJoined
import GoSem.ClaimMapViews
import Derived.JoinedTies
import Derived.KernelRfl
namespace Go.Proofs.Ytmlginnnhlmoeaa
/- THE CELL 'sum', in the pinned program and in every row, IS THE sha256 OF THE DUMP (.gsa) THAT YtmlginnnhlmoeaaProg.lean LOADS. Nothing in Lean hashes anything: it is a label: what it is worth is what the hold of that sum in a sandbox is worth. -/
noncomputable def Try.pinned : Pinned := { name := "ytmlginnnhlmoeaa", sum := "edd54d66cac920278d81238ae4baea8713a053d674016ee941418dc2abfffaf9", checked := Try.checked }
namespace Rows
def none {H : Type} : Left H := { results := [], args := [] }

/-- 'seizinlaw03.EncTells': WHATEVER THE INPUT: true; the input reads as it did. -/
def encTellsSpec : ChangeSpec := { name := "encTells", fn := fun _ => fun
  | [d1, d2, d3, d4] => { results := [.lit (.bool true)], args := [d1, d2, d3, d4] }
  | _ => none }
def encTellsRow : OpenClaim := { program := "ytmlginnnhlmoeaa", sum := "edd54d66cac920278d81238ae4baea8713a053d674016ee941418dc2abfffaf9", func := "seizin/seizinlaw03.EncTells", spec := "encTells", apart := false }
def EncTellsSaid : Prop := encTellsRow.holds Try.pinned (OpenSpec.ofChange encTellsSpec)

/-- ITS FALSE NEIGHBOUR: 'it returns false'. Refute it at one input. -/
def encTellsWrong : ChangeSpec := { name := "encTells", fn := fun _ => fun
  | [d1, d2, d3, d4] => { results := [.lit (.bool false)], args := [d1, d2, d3, d4] }
  | _ => none }
def EncTellsWrongFalsely : Prop := encTellsRow.holds Try.pinned (OpenSpec.ofChange encTellsWrong)

/-- 'seizinlaw03.EncBack': WHATEVER THE INPUT: true; the input reads as it did. -/
def encBackSpec : ChangeSpec := { name := "encBack", fn := fun _ => fun
  | [d] => { results := [.lit (.bool true)], args := [d] }
  | _ => none }
def encBackRow : OpenClaim := { program := "ytmlginnnhlmoeaa", sum := "edd54d66cac920278d81238ae4baea8713a053d674016ee941418dc2abfffaf9", func := "seizin/seizinlaw03.EncBack", spec := "encBack", apart := false }
def EncBackSaid : Prop := encBackRow.holds Try.pinned (OpenSpec.ofChange encBackSpec)

/-- ITS FALSE NEIGHBOUR: 'it returns false'. Refute it at one input. -/
def encBackWrong : ChangeSpec := { name := "encBack", fn := fun _ => fun
  | [d] => { results := [.lit (.bool false)], args := [d] }
  | _ => none }
def EncBackWrongFalsely : Prop := encBackRow.holds Try.pinned (OpenSpec.ofChange encBackWrong)

/-- 'seizinlaw03.EncBytes': WHATEVER THE INPUT: true; the input reads as it did. -/
def encBytesSpec : ChangeSpec := { name := "encBytes", fn := fun _ => fun
  | [d1, d2, d3] => { results := [.lit (.bool true)], args := [d1, d2, d3] }
  | _ => none }
def encBytesRow : OpenClaim := { program := "ytmlginnnhlmoeaa", sum := "edd54d66cac920278d81238ae4baea8713a053d674016ee941418dc2abfffaf9", func := "seizin/seizinlaw03.EncBytes", spec := "encBytes", apart := false }
def EncBytesSaid : Prop := encBytesRow.holds Try.pinned (OpenSpec.ofChange encBytesSpec)

/-- ITS FALSE NEIGHBOUR: 'it returns false'. Refute it at one input. -/
def encBytesWrong : ChangeSpec := { name := "encBytes", fn := fun _ => fun
  | [d1, d2, d3] => { results := [.lit (.bool false)], args := [d1, d2, d3] }
  | _ => none }
def EncBytesWrongFalsely : Prop := encBytesRow.holds Try.pinned (OpenSpec.ofChange encBytesWrong)

/-- 'seizinlaw03.EncUnlike': WHATEVER THE INPUT: true; the input reads as it did. -/
def encUnlikeSpec : ChangeSpec := { name := "encUnlike", fn := fun _ => fun
  | [d1, d2] => { results := [.lit (.bool true)], args := [d1, d2] }
  | _ => none }
def encUnlikeRow : OpenClaim := { program := "ytmlginnnhlmoeaa", sum := "edd54d66cac920278d81238ae4baea8713a053d674016ee941418dc2abfffaf9", func := "seizin/seizinlaw03.EncUnlike", spec := "encUnlike", apart := false }
def EncUnlikeSaid : Prop := encUnlikeRow.holds Try.pinned (OpenSpec.ofChange encUnlikeSpec)

/-- ITS FALSE NEIGHBOUR: 'it returns false'. Refute it at one input. -/
def encUnlikeWrong : ChangeSpec := { name := "encUnlike", fn := fun _ => fun
  | [d1, d2] => { results := [.lit (.bool false)], args := [d1, d2] }
  | _ => none }
def EncUnlikeWrongFalsely : Prop := encUnlikeRow.holds Try.pinned (OpenSpec.ofChange encUnlikeWrong)

/-- 'seizinlaw03.EncFields': WHATEVER THE INPUT: true; the input reads as it did. -/
def encFieldsSpec : ChangeSpec := { name := "encFields", fn := fun _ => fun
  | [d1, d2] => { results := [.lit (.bool true)], args := [d1, d2] }
  | _ => none }
def encFieldsRow : OpenClaim := { program := "ytmlginnnhlmoeaa", sum := "edd54d66cac920278d81238ae4baea8713a053d674016ee941418dc2abfffaf9", func := "seizin/seizinlaw03.EncFields", spec := "encFields", apart := false }
def EncFieldsSaid : Prop := encFieldsRow.holds Try.pinned (OpenSpec.ofChange encFieldsSpec)

/-- ITS FALSE NEIGHBOUR: 'it returns false'. Refute it at one input. -/
def encFieldsWrong : ChangeSpec := { name := "encFields", fn := fun _ => fun
  | [d1, d2] => { results := [.lit (.bool false)], args := [d1, d2] }
  | _ => none }
def EncFieldsWrongFalsely : Prop := encFieldsRow.holds Try.pinned (OpenSpec.ofChange encFieldsWrong)

/- THE SECOND FORM. 'bulk': how many values and letters a reading holds, each counted each time it is reached (what is shared counts as often as it is met; a slice's spare places count too). A statement '..UptoSaid' is the law's where the arguments, and the package variables that the reading takes, are together of bulk at most 1048576: NARROWER than '..Said'. Prove '..Said' where nothing that the law and all that it calls make is longer than what came in: it says more and counts as full. Else prove '..UptoSaid'. A law counts once. -/
mutual
def uptoBulk {H : Type} : DataW H → Nat
  | .lit (.string bytes) => bytes.length + 1
  | .lit _ => 1
  | .nil => 1
  | .ptr d => uptoBulk d + 1
  | .slice elems spare => uptoBulkAll elems + uptoBulkAll spare + 1
  | .agg parts => uptoBulkAll parts + 1
  | .iface _ d => uptoBulk d + 1
  | .map entries => uptoBulkEntries entries + 1
  | .held _ => 1
def uptoBulkAll {H : Type} : List (DataW H) → Nat
  | [] => 0
  | d :: r => uptoBulk d + uptoBulkAll r
def uptoBulkEntries {H : Type} : List (Lit × DataW H) → Nat
  | [] => 0
  | x :: r => uptoBulkEntry x + uptoBulkEntries r
def uptoBulkEntry {H : Type} : Lit × DataW H → Nat
  | (.string bytes, d) => bytes.length + uptoBulk d + 1
  | (_, d) => uptoBulk d + 1
 end
def uptoSmall : (H : Type) → List (DataW H) → Bool := fun _ ds => decide (uptoBulkAll ds ≤ 1048576)
def OpenSpec.upto (s : _root_.Go.ChangeSpec) : _root_.Go.OpenSpec := { _root_.Go.OpenSpec.ofChange s with cond := some uptoSmall }

/-- 'seizinlaw03.EncTells', WHERE WHAT IT READS IS OF BULK AT MOST 1048576: true; the input reads as it did. -/
def encTellsUptoRow : OpenClaim := { program := "ytmlginnnhlmoeaa", sum := "edd54d66cac920278d81238ae4baea8713a053d674016ee941418dc2abfffaf9", func := "seizin/seizinlaw03.EncTells", spec := "encTells", apart := false, narrowed := true }
def EncTellsUptoSaid : Prop := encTellsUptoRow.holds Try.pinned (OpenSpec.upto encTellsSpec)

/-- 'seizinlaw03.EncBack', WHERE WHAT IT READS IS OF BULK AT MOST 1048576: true; the input reads as it did. -/
def encBackUptoRow : OpenClaim := { program := "ytmlginnnhlmoeaa", sum := "edd54d66cac920278d81238ae4baea8713a053d674016ee941418dc2abfffaf9", func := "seizin/seizinlaw03.EncBack", spec := "encBack", apart := false, narrowed := true }
def EncBackUptoSaid : Prop := encBackUptoRow.holds Try.pinned (OpenSpec.upto encBackSpec)

/-- 'seizinlaw03.EncBytes', WHERE WHAT IT READS IS OF BULK AT MOST 1048576: true; the input reads as it did. -/
def encBytesUptoRow : OpenClaim := { program := "ytmlginnnhlmoeaa", sum := "edd54d66cac920278d81238ae4baea8713a053d674016ee941418dc2abfffaf9", func := "seizin/seizinlaw03.EncBytes", spec := "encBytes", apart := false, narrowed := true }
def EncBytesUptoSaid : Prop := encBytesUptoRow.holds Try.pinned (OpenSpec.upto encBytesSpec)

/-- 'seizinlaw03.EncUnlike', WHERE WHAT IT READS IS OF BULK AT MOST 1048576: true; the input reads as it did. -/
def encUnlikeUptoRow : OpenClaim := { program := "ytmlginnnhlmoeaa", sum := "edd54d66cac920278d81238ae4baea8713a053d674016ee941418dc2abfffaf9", func := "seizin/seizinlaw03.EncUnlike", spec := "encUnlike", apart := false, narrowed := true }
def EncUnlikeUptoSaid : Prop := encUnlikeUptoRow.holds Try.pinned (OpenSpec.upto encUnlikeSpec)

/-- 'seizinlaw03.EncFields', WHERE WHAT IT READS IS OF BULK AT MOST 1048576: true; the input reads as it did. -/
def encFieldsUptoRow : OpenClaim := { program := "ytmlginnnhlmoeaa", sum := "edd54d66cac920278d81238ae4baea8713a053d674016ee941418dc2abfffaf9", func := "seizin/seizinlaw03.EncFields", spec := "encFields", apart := false, narrowed := true }
def EncFieldsUptoSaid : Prop := encFieldsUptoRow.holds Try.pinned (OpenSpec.upto encFieldsSpec)

end Rows
end Go.Proofs.Ytmlginnnhlmoeaa
