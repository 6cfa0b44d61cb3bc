/-
  No cell of these rows narrows 'for every input' (looked for: loops, veiled, ifaces, maps, wideKeys, modest, calm, conditions, laid).
  DERIVED. THE GIVEN ROWS OF THIS SEAT. 5 by the template 'for every input the law returns true; each argument reads behind the call as it read before'; 0 by the template 'total and deterministic' (their statements: YthamfkbopjagdaaTotals.lean).
  GIVEN WITH THE SEED: the statements are not yours to turn. If you find one false, say at which input.
  Laid BY PROGRAM, IN A SANDBOX (cutbox-rows.mjs): the forced cells as the released guide's own fill.sh prints them over the translation db1d13d751529eaa… (all of the seat's roots in one cut). By AI agents, Wed Nov 11 2026. No macro, syntax, notation, axiom, sorry.
-/
import Derived.Test.YthamfkbopjagdaaChecked
import GoSem.Claim
import GoSem.ClaimJoined
import GoSem.ClaimMapViews
import Derived.JoinedTies
import Derived.KernelRfl
namespace Go.Proofs.Ythamfkbopjagdaa
/- THE CELL 'sum', in the pinned program and in every row, IS THE sha256 OF THE DUMP (.gsa) THAT YthamfkbopjagdaaProg.lean LOADS. Nothing in Lean hashes anything: it is a label: what it is worth is what the hold of that sum in a sandbox is worth. -/
noncomputable def Try.pinned : Pinned := { name := "ythamfkbopjagdaa", sum := "db1d13d751529eaa133693ce7dcf59176b837bcd8615e3a47761bd2ea4e91dfc", checked := Try.checked }
namespace Rows
def none {H : Type} : Left H := { results := [], args := [] }

/-- 'seizinlaw10.SweepPlays': WHATEVER THE INPUT: true; the input reads as it did. -/
def sweepPlaysSpec : ChangeSpec := { name := "sweepPlays", fn := fun _ => fun
  | [d1, d2] => { results := [.lit (.bool true)], args := [d1, d2] }
  | _ => none }
def sweepPlaysRow : OpenClaim := { program := "ythamfkbopjagdaa", sum := "db1d13d751529eaa133693ce7dcf59176b837bcd8615e3a47761bd2ea4e91dfc", func := "seizin/seizinlaw10.SweepPlays", spec := "sweepPlays", unfollowed := true, recurses := true, apart := false }
def SweepPlaysSaid : Prop := sweepPlaysRow.holds Try.pinned (OpenSpec.ofChange sweepPlaysSpec)

/-- ITS FALSE NEIGHBOUR: 'it returns false'. Refute it at one input. -/
def sweepPlaysWrong : ChangeSpec := { name := "sweepPlays", fn := fun _ => fun
  | [d1, d2] => { results := [.lit (.bool false)], args := [d1, d2] }
  | _ => none }
def SweepPlaysWrongFalsely : Prop := sweepPlaysRow.holds Try.pinned (OpenSpec.ofChange sweepPlaysWrong)

/-- 'seizinlaw10.SweepAll': WHATEVER THE INPUT: true; the input reads as it did. -/
def sweepAllSpec : ChangeSpec := { name := "sweepAll", fn := fun _ => fun
  | [d1, d2, d3, d4] => { results := [.lit (.bool true)], args := [d1, d2, d3, d4] }
  | _ => none }
def sweepAllRow : OpenClaim := { program := "ythamfkbopjagdaa", sum := "db1d13d751529eaa133693ce7dcf59176b837bcd8615e3a47761bd2ea4e91dfc", func := "seizin/seizinlaw10.SweepAll", spec := "sweepAll", unfollowed := true, recurses := true, apart := false }
def SweepAllSaid : Prop := sweepAllRow.holds Try.pinned (OpenSpec.ofChange sweepAllSpec)

/-- ITS FALSE NEIGHBOUR: 'it returns false'. Refute it at one input. -/
def sweepAllWrong : ChangeSpec := { name := "sweepAll", fn := fun _ => fun
  | [d1, d2, d3, d4] => { results := [.lit (.bool false)], args := [d1, d2, d3, d4] }
  | _ => none }
def SweepAllWrongFalsely : Prop := sweepAllRow.holds Try.pinned (OpenSpec.ofChange sweepAllWrong)

/-- 'seizinlaw10.SweepNoOther': WHATEVER THE INPUT: true; the input reads as it did. -/
def sweepNoOtherSpec : ChangeSpec := { name := "sweepNoOther", fn := fun _ => fun
  | [d1, d2] => { results := [.lit (.bool true)], args := [d1, d2] }
  | _ => none }
def sweepNoOtherRow : OpenClaim := { program := "ythamfkbopjagdaa", sum := "db1d13d751529eaa133693ce7dcf59176b837bcd8615e3a47761bd2ea4e91dfc", func := "seizin/seizinlaw10.SweepNoOther", spec := "sweepNoOther", unfollowed := true, recurses := true, apart := false }
def SweepNoOtherSaid : Prop := sweepNoOtherRow.holds Try.pinned (OpenSpec.ofChange sweepNoOtherSpec)

/-- ITS FALSE NEIGHBOUR: 'it returns false'. Refute it at one input. -/
def sweepNoOtherWrong : ChangeSpec := { name := "sweepNoOther", fn := fun _ => fun
  | [d1, d2] => { results := [.lit (.bool false)], args := [d1, d2] }
  | _ => none }
def SweepNoOtherWrongFalsely : Prop := sweepNoOtherRow.holds Try.pinned (OpenSpec.ofChange sweepNoOtherWrong)

/-- 'seizinlaw10.SweepHeld': WHATEVER THE INPUT: true; the input reads as it did. -/
def sweepHeldSpec : ChangeSpec := { name := "sweepHeld", fn := fun _ => fun
  | [d1, d2] => { results := [.lit (.bool true)], args := [d1, d2] }
  | _ => none }
def sweepHeldRow : OpenClaim := { program := "ythamfkbopjagdaa", sum := "db1d13d751529eaa133693ce7dcf59176b837bcd8615e3a47761bd2ea4e91dfc", func := "seizin/seizinlaw10.SweepHeld", spec := "sweepHeld", unfollowed := true, recurses := true, apart := false }
def SweepHeldSaid : Prop := sweepHeldRow.holds Try.pinned (OpenSpec.ofChange sweepHeldSpec)

/-- ITS FALSE NEIGHBOUR: 'it returns false'. Refute it at one input. -/
def sweepHeldWrong : ChangeSpec := { name := "sweepHeld", fn := fun _ => fun
  | [d1, d2] => { results := [.lit (.bool false)], args := [d1, d2] }
  | _ => none }
def SweepHeldWrongFalsely : Prop := sweepHeldRow.holds Try.pinned (OpenSpec.ofChange sweepHeldWrong)

/-- 'seizinlaw10.SweepSteps': WHATEVER THE INPUT: true; the input reads as it did. -/
def sweepStepsSpec : ChangeSpec := { name := "sweepSteps", fn := fun _ => fun
  | [d1, d2, d3] => { results := [.lit (.bool true)], args := [d1, d2, d3] }
  | _ => none }
def sweepStepsRow : OpenClaim := { program := "ythamfkbopjagdaa", sum := "db1d13d751529eaa133693ce7dcf59176b837bcd8615e3a47761bd2ea4e91dfc", func := "seizin/seizinlaw10.SweepSteps", spec := "sweepSteps", unfollowed := true, recurses := true, apart := false }
def SweepStepsSaid : Prop := sweepStepsRow.holds Try.pinned (OpenSpec.ofChange sweepStepsSpec)

/-- ITS FALSE NEIGHBOUR: 'it returns false'. Refute it at one input. -/
def sweepStepsWrong : ChangeSpec := { name := "sweepSteps", fn := fun _ => fun
  | [d1, d2, d3] => { results := [.lit (.bool false)], args := [d1, d2, d3] }
  | _ => none }
def SweepStepsWrongFalsely : Prop := sweepStepsRow.holds Try.pinned (OpenSpec.ofChange sweepStepsWrong)

/- THE SECOND FORM. 'bulk': how many values and letters a reading holds, each counted each time it is reached (what is shared counts as often as it is met; a slice's spare places count too). A statement '..UptoSaid' is the law's where the arguments, and the package variables that the reading takes, are together of bulk at most 1048576: NARROWER than '..Said'. Prove '..Said' where nothing that the law and all that it calls make is longer than what came in: it says more and counts as full. Else prove '..UptoSaid'. A law counts once. -/
mutual
def uptoBulk {H : Type} : DataW H → Nat
  | .lit (.string bytes) => bytes.length + 1
  | .lit _ => 1
  | .nil => 1
  | .ptr d => uptoBulk d + 1
  | .slice elems spare => uptoBulkAll elems + uptoBulkAll spare + 1
  | .agg parts => uptoBulkAll parts + 1
  | .iface _ d => uptoBulk d + 1
  | .map entries => uptoBulkEntries entries + 1
  | .held _ => 1
def uptoBulkAll {H : Type} : List (DataW H) → Nat
  | [] => 0
  | d :: r => uptoBulk d + uptoBulkAll r
def uptoBulkEntries {H : Type} : List (Lit × DataW H) → Nat
  | [] => 0
  | x :: r => uptoBulkEntry x + uptoBulkEntries r
def uptoBulkEntry {H : Type} : Lit × DataW H → Nat
  | (.string bytes, d) => bytes.length + uptoBulk d + 1
  | (_, d) => uptoBulk d + 1
 end
def uptoSmall : (H : Type) → List (DataW H) → Bool := fun _ ds => decide (uptoBulkAll ds ≤ 1048576)
def OpenSpec.upto (s : _root_.Go.ChangeSpec) : _root_.Go.OpenSpec := { _root_.Go.OpenSpec.ofChange s with cond := some uptoSmall }

/-- 'seizinlaw10.SweepPlays', WHERE WHAT IT READS IS OF BULK AT MOST 1048576: true; the input reads as it did. -/
def sweepPlaysUptoRow : OpenClaim := { program := "ythamfkbopjagdaa", sum := "db1d13d751529eaa133693ce7dcf59176b837bcd8615e3a47761bd2ea4e91dfc", func := "seizin/seizinlaw10.SweepPlays", spec := "sweepPlays", unfollowed := true, recurses := true, apart := false, narrowed := true }
def SweepPlaysUptoSaid : Prop := sweepPlaysUptoRow.holds Try.pinned (OpenSpec.upto sweepPlaysSpec)

/-- 'seizinlaw10.SweepAll', WHERE WHAT IT READS IS OF BULK AT MOST 1048576: true; the input reads as it did. -/
def sweepAllUptoRow : OpenClaim := { program := "ythamfkbopjagdaa", sum := "db1d13d751529eaa133693ce7dcf59176b837bcd8615e3a47761bd2ea4e91dfc", func := "seizin/seizinlaw10.SweepAll", spec := "sweepAll", unfollowed := true, recurses := true, apart := false, narrowed := true }
def SweepAllUptoSaid : Prop := sweepAllUptoRow.holds Try.pinned (OpenSpec.upto sweepAllSpec)

/-- 'seizinlaw10.SweepNoOther', WHERE WHAT IT READS IS OF BULK AT MOST 1048576: true; the input reads as it did. -/
def sweepNoOtherUptoRow : OpenClaim := { program := "ythamfkbopjagdaa", sum := "db1d13d751529eaa133693ce7dcf59176b837bcd8615e3a47761bd2ea4e91dfc", func := "seizin/seizinlaw10.SweepNoOther", spec := "sweepNoOther", unfollowed := true, recurses := true, apart := false, narrowed := true }
def SweepNoOtherUptoSaid : Prop := sweepNoOtherUptoRow.holds Try.pinned (OpenSpec.upto sweepNoOtherSpec)

/-- 'seizinlaw10.SweepHeld', WHERE WHAT IT READS IS OF BULK AT MOST 1048576: true; the input reads as it did. -/
def sweepHeldUptoRow : OpenClaim := { program := "ythamfkbopjagdaa", sum := "db1d13d751529eaa133693ce7dcf59176b837bcd8615e3a47761bd2ea4e91dfc", func := "seizin/seizinlaw10.SweepHeld", spec := "sweepHeld", unfollowed := true, recurses := true, apart := false, narrowed := true }
def SweepHeldUptoSaid : Prop := sweepHeldUptoRow.holds Try.pinned (OpenSpec.upto sweepHeldSpec)

/-- 'seizinlaw10.SweepSteps', WHERE WHAT IT READS IS OF BULK AT MOST 1048576: true; the input reads as it did. -/
def sweepStepsUptoRow : OpenClaim := { program := "ythamfkbopjagdaa", sum := "db1d13d751529eaa133693ce7dcf59176b837bcd8615e3a47761bd2ea4e91dfc", func := "seizin/seizinlaw10.SweepSteps", spec := "sweepSteps", unfollowed := true, recurses := true, apart := false, narrowed := true }
def SweepStepsUptoSaid : Prop := sweepStepsUptoRow.holds Try.pinned (OpenSpec.upto sweepStepsSpec)

end Rows
end Go.Proofs.Ythamfkbopjagdaa
