/-
  No cell of these rows narrows 'for every input' (looked for: loops, veiled, ifaces, maps, wideKeys, modest, calm, conditions, laid).
  DERIVED. THE GIVEN ROWS OF THIS SEAT. 5 by the template 'for every input the law returns true; each argument reads behind the call as it read before'; 0 by the template 'total and deterministic' (their statements: YtgckgljffooodaaTotals.lean).
  GIVEN WITH THE SEED: the statements are not yours to turn. If you find one false, say at which input.
  Laid BY PROGRAM, IN A SANDBOX (cutbox-rows.mjs): the forced cells as the released guide's own fill.sh prints them over the translation 913824303011a82f… (all of the seat's roots in one cut). By AI agents, Wed Nov 11 2026. No macro, syntax, notation, axiom, sorry.
-/
import Derived.Test.YtgckgljffooodaaChecked
import GoSem.Claim
import GoSem.ClaimJoined
import GoSem.ClaimMapViews
import Derived.JoinedTies
import Derived.KernelRfl
namespace Go.Proofs.Ytgckgljffooodaa
/- THE CELL 'sum', in the pinned program and in every row, IS THE sha256 OF THE DUMP (.gsa) THAT YtgckgljffooodaaProg.lean LOADS. Nothing in Lean hashes anything: it is a label: what it is worth is what the hold of that sum in a sandbox is worth. -/
noncomputable def Try.pinned : Pinned := { name := "ytgckgljffooodaa", sum := "913824303011a82fdba73332eec89605873fb07c8d3cd7cb121bcdc103f05213", checked := Try.checked }
namespace Rows
def none {H : Type} : Left H := { results := [], args := [] }

/-- 'seizinlaw09.EpochPlays': WHATEVER THE INPUT: true; the input reads as it did. -/
def epochPlaysSpec : ChangeSpec := { name := "epochPlays", fn := fun _ => fun
  | [d1, d2] => { results := [.lit (.bool true)], args := [d1, d2] }
  | _ => none }
def epochPlaysRow : OpenClaim := { program := "ytgckgljffooodaa", sum := "913824303011a82fdba73332eec89605873fb07c8d3cd7cb121bcdc103f05213", func := "seizin/seizinlaw09.EpochPlays", spec := "epochPlays", unfollowed := true, recurses := true, apart := false }
def EpochPlaysSaid : Prop := epochPlaysRow.holds Try.pinned (OpenSpec.ofChange epochPlaysSpec)

/-- ITS FALSE NEIGHBOUR: 'it returns false'. Refute it at one input. -/
def epochPlaysWrong : ChangeSpec := { name := "epochPlays", fn := fun _ => fun
  | [d1, d2] => { results := [.lit (.bool false)], args := [d1, d2] }
  | _ => none }
def EpochPlaysWrongFalsely : Prop := epochPlaysRow.holds Try.pinned (OpenSpec.ofChange epochPlaysWrong)

/-- 'seizinlaw09.EpochWhole': WHATEVER THE INPUT: true; the input reads as it did. -/
def epochWholeSpec : ChangeSpec := { name := "epochWhole", fn := fun _ => fun
  | [d1, d2] => { results := [.lit (.bool true)], args := [d1, d2] }
  | _ => none }
def epochWholeRow : OpenClaim := { program := "ytgckgljffooodaa", sum := "913824303011a82fdba73332eec89605873fb07c8d3cd7cb121bcdc103f05213", func := "seizin/seizinlaw09.EpochWhole", spec := "epochWhole", unfollowed := true, recurses := true, apart := false }
def EpochWholeSaid : Prop := epochWholeRow.holds Try.pinned (OpenSpec.ofChange epochWholeSpec)

/-- ITS FALSE NEIGHBOUR: 'it returns false'. Refute it at one input. -/
def epochWholeWrong : ChangeSpec := { name := "epochWhole", fn := fun _ => fun
  | [d1, d2] => { results := [.lit (.bool false)], args := [d1, d2] }
  | _ => none }
def EpochWholeWrongFalsely : Prop := epochWholeRow.holds Try.pinned (OpenSpec.ofChange epochWholeWrong)

/-- 'seizinlaw09.EpochTurns': WHATEVER THE INPUT: true; the input reads as it did. -/
def epochTurnsSpec : ChangeSpec := { name := "epochTurns", fn := fun _ => fun
  | [d] => { results := [.lit (.bool true)], args := [d] }
  | _ => none }
def epochTurnsRow : OpenClaim := { program := "ytgckgljffooodaa", sum := "913824303011a82fdba73332eec89605873fb07c8d3cd7cb121bcdc103f05213", func := "seizin/seizinlaw09.EpochTurns", spec := "epochTurns", unfollowed := true, recurses := true, apart := false }
def EpochTurnsSaid : Prop := epochTurnsRow.holds Try.pinned (OpenSpec.ofChange epochTurnsSpec)

/-- ITS FALSE NEIGHBOUR: 'it returns false'. Refute it at one input. -/
def epochTurnsWrong : ChangeSpec := { name := "epochTurns", fn := fun _ => fun
  | [d] => { results := [.lit (.bool false)], args := [d] }
  | _ => none }
def EpochTurnsWrongFalsely : Prop := epochTurnsRow.holds Try.pinned (OpenSpec.ofChange epochTurnsWrong)

/-- 'seizinlaw09.EpochWhen': WHATEVER THE INPUT: true; the input reads as it did. -/
def epochWhenSpec : ChangeSpec := { name := "epochWhen", fn := fun _ => fun
  | [d1, d2] => { results := [.lit (.bool true)], args := [d1, d2] }
  | _ => none }
def epochWhenRow : OpenClaim := { program := "ytgckgljffooodaa", sum := "913824303011a82fdba73332eec89605873fb07c8d3cd7cb121bcdc103f05213", func := "seizin/seizinlaw09.EpochWhen", spec := "epochWhen", unfollowed := true, recurses := true, apart := false }
def EpochWhenSaid : Prop := epochWhenRow.holds Try.pinned (OpenSpec.ofChange epochWhenSpec)

/-- ITS FALSE NEIGHBOUR: 'it returns false'. Refute it at one input. -/
def epochWhenWrong : ChangeSpec := { name := "epochWhen", fn := fun _ => fun
  | [d1, d2] => { results := [.lit (.bool false)], args := [d1, d2] }
  | _ => none }
def EpochWhenWrongFalsely : Prop := epochWhenRow.holds Try.pinned (OpenSpec.ofChange epochWhenWrong)

/-- 'seizinlaw09.EpochOnce': WHATEVER THE INPUT: true; the input reads as it did. -/
def epochOnceSpec : ChangeSpec := { name := "epochOnce", fn := fun _ => fun
  | [d1, d2] => { results := [.lit (.bool true)], args := [d1, d2] }
  | _ => none }
def epochOnceRow : OpenClaim := { program := "ytgckgljffooodaa", sum := "913824303011a82fdba73332eec89605873fb07c8d3cd7cb121bcdc103f05213", func := "seizin/seizinlaw09.EpochOnce", spec := "epochOnce", unfollowed := true, recurses := true, apart := false }
def EpochOnceSaid : Prop := epochOnceRow.holds Try.pinned (OpenSpec.ofChange epochOnceSpec)

/-- ITS FALSE NEIGHBOUR: 'it returns false'. Refute it at one input. -/
def epochOnceWrong : ChangeSpec := { name := "epochOnce", fn := fun _ => fun
  | [d1, d2] => { results := [.lit (.bool false)], args := [d1, d2] }
  | _ => none }
def EpochOnceWrongFalsely : Prop := epochOnceRow.holds Try.pinned (OpenSpec.ofChange epochOnceWrong)

/- THE SECOND FORM. 'bulk': how many values and letters a reading holds, each counted each time it is reached (what is shared counts as often as it is met; a slice's spare places count too). A statement '..UptoSaid' is the law's where the arguments, and the package variables that the reading takes, are together of bulk at most 1048576: NARROWER than '..Said'. Prove '..Said' where nothing that the law and all that it calls make is longer than what came in: it says more and counts as full. Else prove '..UptoSaid'. A law counts once. -/
mutual
def uptoBulk {H : Type} : DataW H → Nat
  | .lit (.string bytes) => bytes.length + 1
  | .lit _ => 1
  | .nil => 1
  | .ptr d => uptoBulk d + 1
  | .slice elems spare => uptoBulkAll elems + uptoBulkAll spare + 1
  | .agg parts => uptoBulkAll parts + 1
  | .iface _ d => uptoBulk d + 1
  | .map entries => uptoBulkEntries entries + 1
  | .held _ => 1
def uptoBulkAll {H : Type} : List (DataW H) → Nat
  | [] => 0
  | d :: r => uptoBulk d + uptoBulkAll r
def uptoBulkEntries {H : Type} : List (Lit × DataW H) → Nat
  | [] => 0
  | x :: r => uptoBulkEntry x + uptoBulkEntries r
def uptoBulkEntry {H : Type} : Lit × DataW H → Nat
  | (.string bytes, d) => bytes.length + uptoBulk d + 1
  | (_, d) => uptoBulk d + 1
 end
def uptoSmall : (H : Type) → List (DataW H) → Bool := fun _ ds => decide (uptoBulkAll ds ≤ 1048576)
def OpenSpec.upto (s : _root_.Go.ChangeSpec) : _root_.Go.OpenSpec := { _root_.Go.OpenSpec.ofChange s with cond := some uptoSmall }

/-- 'seizinlaw09.EpochPlays', WHERE WHAT IT READS IS OF BULK AT MOST 1048576: true; the input reads as it did. -/
def epochPlaysUptoRow : OpenClaim := { program := "ytgckgljffooodaa", sum := "913824303011a82fdba73332eec89605873fb07c8d3cd7cb121bcdc103f05213", func := "seizin/seizinlaw09.EpochPlays", spec := "epochPlays", unfollowed := true, recurses := true, apart := false, narrowed := true }
def EpochPlaysUptoSaid : Prop := epochPlaysUptoRow.holds Try.pinned (OpenSpec.upto epochPlaysSpec)

/-- 'seizinlaw09.EpochWhole', WHERE WHAT IT READS IS OF BULK AT MOST 1048576: true; the input reads as it did. -/
def epochWholeUptoRow : OpenClaim := { program := "ytgckgljffooodaa", sum := "913824303011a82fdba73332eec89605873fb07c8d3cd7cb121bcdc103f05213", func := "seizin/seizinlaw09.EpochWhole", spec := "epochWhole", unfollowed := true, recurses := true, apart := false, narrowed := true }
def EpochWholeUptoSaid : Prop := epochWholeUptoRow.holds Try.pinned (OpenSpec.upto epochWholeSpec)

/-- 'seizinlaw09.EpochTurns', WHERE WHAT IT READS IS OF BULK AT MOST 1048576: true; the input reads as it did. -/
def epochTurnsUptoRow : OpenClaim := { program := "ytgckgljffooodaa", sum := "913824303011a82fdba73332eec89605873fb07c8d3cd7cb121bcdc103f05213", func := "seizin/seizinlaw09.EpochTurns", spec := "epochTurns", unfollowed := true, recurses := true, apart := false, narrowed := true }
def EpochTurnsUptoSaid : Prop := epochTurnsUptoRow.holds Try.pinned (OpenSpec.upto epochTurnsSpec)

/-- 'seizinlaw09.EpochWhen', WHERE WHAT IT READS IS OF BULK AT MOST 1048576: true; the input reads as it did. -/
def epochWhenUptoRow : OpenClaim := { program := "ytgckgljffooodaa", sum := "913824303011a82fdba73332eec89605873fb07c8d3cd7cb121bcdc103f05213", func := "seizin/seizinlaw09.EpochWhen", spec := "epochWhen", unfollowed := true, recurses := true, apart := false, narrowed := true }
def EpochWhenUptoSaid : Prop := epochWhenUptoRow.holds Try.pinned (OpenSpec.upto epochWhenSpec)

/-- 'seizinlaw09.EpochOnce', WHERE WHAT IT READS IS OF BULK AT MOST 1048576: true; the input reads as it did. -/
def epochOnceUptoRow : OpenClaim := { program := "ytgckgljffooodaa", sum := "913824303011a82fdba73332eec89605873fb07c8d3cd7cb121bcdc103f05213", func := "seizin/seizinlaw09.EpochOnce", spec := "epochOnce", unfollowed := true, recurses := true, apart := false, narrowed := true }
def EpochOnceUptoSaid : Prop := epochOnceUptoRow.holds Try.pinned (OpenSpec.upto epochOnceSpec)

end Rows
end Go.Proofs.Ytgckgljffooodaa
