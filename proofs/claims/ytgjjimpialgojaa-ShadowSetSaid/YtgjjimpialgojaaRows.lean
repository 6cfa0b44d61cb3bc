/-
  No cell of these rows narrows 'for every input' (looked for: loops, veiled, ifaces, maps, wideKeys, modest, calm, conditions, laid).
  DERIVED. THE GIVEN ROWS OF THIS SEAT. 5 by the template 'for every input the law returns true; each argument reads behind the call as it read before'; 0 by the template 'total and deterministic' (their statements: YtgjjimpialgojaaTotals.lean).
  GIVEN WITH THE SEED: the statements are not yours to turn. If you find one false, say at which input.
  Laid BY PROGRAM, IN A SANDBOX (cutbox-rows.mjs): the forced cells as the released guide's own fill.sh prints them over the translation 38f6ae22674283fa… (all of the seat's roots in one cut). By AI agents, Wed Nov 11 2026. No macro, syntax, notation, axiom, sorry.
-/
import Derived.Test.YtgjjimpialgojaaChecked
import GoSem.Claim
import GoSem.ClaimJoined
import GoSem.ClaimMapViews
import Derived.JoinedTies
import Derived.KernelRfl
namespace Go.Proofs.Ytgjjimpialgojaa
/- THE CELL 'sum', in the pinned program and in every row, IS THE sha256 OF THE DUMP (.gsa) THAT YtgjjimpialgojaaProg.lean LOADS. Nothing in Lean hashes anything: it is a label: what it is worth is what the hold of that sum in a sandbox is worth. -/
noncomputable def Try.pinned : Pinned := { name := "ytgjjimpialgojaa", sum := "38f6ae22674283fa33e6144aa7ed72ef9ebeed96dac44baa952de9fb2accfdd7", checked := Try.checked }
namespace Rows
def none {H : Type} : Left H := { results := [], args := [] }

/-- 'seizinlaw08.ShadowPlays': WHATEVER THE INPUT: true; the input reads as it did. -/
def shadowPlaysSpec : ChangeSpec := { name := "shadowPlays", fn := fun _ => fun
  | [d1, d2, d3, d4] => { results := [.lit (.bool true)], args := [d1, d2, d3, d4] }
  | _ => none }
def shadowPlaysRow : OpenClaim := { program := "ytgjjimpialgojaa", sum := "38f6ae22674283fa33e6144aa7ed72ef9ebeed96dac44baa952de9fb2accfdd7", func := "seizin/seizinlaw08.ShadowPlays", spec := "shadowPlays", apart := false }
def ShadowPlaysSaid : Prop := shadowPlaysRow.holds Try.pinned (OpenSpec.ofChange shadowPlaysSpec)

/-- ITS FALSE NEIGHBOUR: 'it returns false'. Refute it at one input. -/
def shadowPlaysWrong : ChangeSpec := { name := "shadowPlays", fn := fun _ => fun
  | [d1, d2, d3, d4] => { results := [.lit (.bool false)], args := [d1, d2, d3, d4] }
  | _ => none }
def ShadowPlaysWrongFalsely : Prop := shadowPlaysRow.holds Try.pinned (OpenSpec.ofChange shadowPlaysWrong)

/-- 'seizinlaw08.ShadowSet': WHATEVER THE INPUT: true; the input reads as it did. -/
def shadowSetSpec : ChangeSpec := { name := "shadowSet", fn := fun _ => fun
  | [d1, d2] => { results := [.lit (.bool true)], args := [d1, d2] }
  | _ => none }
def shadowSetRow : OpenClaim := { program := "ytgjjimpialgojaa", sum := "38f6ae22674283fa33e6144aa7ed72ef9ebeed96dac44baa952de9fb2accfdd7", func := "seizin/seizinlaw08.ShadowSet", spec := "shadowSet", apart := false }
def ShadowSetSaid : Prop := shadowSetRow.holds Try.pinned (OpenSpec.ofChange shadowSetSpec)

/-- ITS FALSE NEIGHBOUR: 'it returns false'. Refute it at one input. -/
def shadowSetWrong : ChangeSpec := { name := "shadowSet", fn := fun _ => fun
  | [d1, d2] => { results := [.lit (.bool false)], args := [d1, d2] }
  | _ => none }
def ShadowSetWrongFalsely : Prop := shadowSetRow.holds Try.pinned (OpenSpec.ofChange shadowSetWrong)

/-- 'seizinlaw08.ShadowRows': WHATEVER THE INPUT: true; the input reads as it did. -/
def shadowRowsSpec : ChangeSpec := { name := "shadowRows", fn := fun _ => fun
  | [d] => { results := [.lit (.bool true)], args := [d] }
  | _ => none }
def shadowRowsRow : OpenClaim := { program := "ytgjjimpialgojaa", sum := "38f6ae22674283fa33e6144aa7ed72ef9ebeed96dac44baa952de9fb2accfdd7", func := "seizin/seizinlaw08.ShadowRows", spec := "shadowRows", apart := false }
def ShadowRowsSaid : Prop := shadowRowsRow.holds Try.pinned (OpenSpec.ofChange shadowRowsSpec)

/-- ITS FALSE NEIGHBOUR: 'it returns false'. Refute it at one input. -/
def shadowRowsWrong : ChangeSpec := { name := "shadowRows", fn := fun _ => fun
  | [d] => { results := [.lit (.bool false)], args := [d] }
  | _ => none }
def ShadowRowsWrongFalsely : Prop := shadowRowsRow.holds Try.pinned (OpenSpec.ofChange shadowRowsWrong)

/-- 'seizinlaw08.ShadowBack': WHATEVER THE INPUT: true; the input reads as it did. -/
def shadowBackSpec : ChangeSpec := { name := "shadowBack", fn := fun _ => fun
  | [d1, d2, d3] => { results := [.lit (.bool true)], args := [d1, d2, d3] }
  | _ => none }
def shadowBackRow : OpenClaim := { program := "ytgjjimpialgojaa", sum := "38f6ae22674283fa33e6144aa7ed72ef9ebeed96dac44baa952de9fb2accfdd7", func := "seizin/seizinlaw08.ShadowBack", spec := "shadowBack", apart := false }
def ShadowBackSaid : Prop := shadowBackRow.holds Try.pinned (OpenSpec.ofChange shadowBackSpec)

/-- ITS FALSE NEIGHBOUR: 'it returns false'. Refute it at one input. -/
def shadowBackWrong : ChangeSpec := { name := "shadowBack", fn := fun _ => fun
  | [d1, d2, d3] => { results := [.lit (.bool false)], args := [d1, d2, d3] }
  | _ => none }
def ShadowBackWrongFalsely : Prop := shadowBackRow.holds Try.pinned (OpenSpec.ofChange shadowBackWrong)

/-- 'seizinlaw08.ShadowParts': WHATEVER THE INPUT: true; the input reads as it did. -/
def shadowPartsSpec : ChangeSpec := { name := "shadowParts", fn := fun _ => fun
  | [d1, d2, d3, d4, d5] => { results := [.lit (.bool true)], args := [d1, d2, d3, d4, d5] }
  | _ => none }
def shadowPartsRow : OpenClaim := { program := "ytgjjimpialgojaa", sum := "38f6ae22674283fa33e6144aa7ed72ef9ebeed96dac44baa952de9fb2accfdd7", func := "seizin/seizinlaw08.ShadowParts", spec := "shadowParts", apart := false }
def ShadowPartsSaid : Prop := shadowPartsRow.holds Try.pinned (OpenSpec.ofChange shadowPartsSpec)

/-- ITS FALSE NEIGHBOUR: 'it returns false'. Refute it at one input. -/
def shadowPartsWrong : ChangeSpec := { name := "shadowParts", fn := fun _ => fun
  | [d1, d2, d3, d4, d5] => { results := [.lit (.bool false)], args := [d1, d2, d3, d4, d5] }
  | _ => none }
def ShadowPartsWrongFalsely : Prop := shadowPartsRow.holds Try.pinned (OpenSpec.ofChange shadowPartsWrong)

/- THE SECOND FORM. 'bulk': how many values and letters a reading holds, each counted each time it is reached (what is shared counts as often as it is met; a slice's spare places count too). A statement '..UptoSaid' is the law's where the arguments, and the package variables that the reading takes, are together of bulk at most 1048576: NARROWER than '..Said'. Prove '..Said' where nothing that the law and all that it calls make is longer than what came in: it says more and counts as full. Else prove '..UptoSaid'. A law counts once. -/
mutual
def uptoBulk {H : Type} : DataW H → Nat
  | .lit (.string bytes) => bytes.length + 1
  | .lit _ => 1
  | .nil => 1
  | .ptr d => uptoBulk d + 1
  | .slice elems spare => uptoBulkAll elems + uptoBulkAll spare + 1
  | .agg parts => uptoBulkAll parts + 1
  | .iface _ d => uptoBulk d + 1
  | .map entries => uptoBulkEntries entries + 1
  | .held _ => 1
def uptoBulkAll {H : Type} : List (DataW H) → Nat
  | [] => 0
  | d :: r => uptoBulk d + uptoBulkAll r
def uptoBulkEntries {H : Type} : List (Lit × DataW H) → Nat
  | [] => 0
  | x :: r => uptoBulkEntry x + uptoBulkEntries r
def uptoBulkEntry {H : Type} : Lit × DataW H → Nat
  | (.string bytes, d) => bytes.length + uptoBulk d + 1
  | (_, d) => uptoBulk d + 1
 end
def uptoSmall : (H : Type) → List (DataW H) → Bool := fun _ ds => decide (uptoBulkAll ds ≤ 1048576)
def OpenSpec.upto (s : _root_.Go.ChangeSpec) : _root_.Go.OpenSpec := { _root_.Go.OpenSpec.ofChange s with cond := some uptoSmall }

/-- 'seizinlaw08.ShadowPlays', WHERE WHAT IT READS IS OF BULK AT MOST 1048576: true; the input reads as it did. -/
def shadowPlaysUptoRow : OpenClaim := { program := "ytgjjimpialgojaa", sum := "38f6ae22674283fa33e6144aa7ed72ef9ebeed96dac44baa952de9fb2accfdd7", func := "seizin/seizinlaw08.ShadowPlays", spec := "shadowPlays", apart := false, narrowed := true }
def ShadowPlaysUptoSaid : Prop := shadowPlaysUptoRow.holds Try.pinned (OpenSpec.upto shadowPlaysSpec)

/-- 'seizinlaw08.ShadowSet', WHERE WHAT IT READS IS OF BULK AT MOST 1048576: true; the input reads as it did. -/
def shadowSetUptoRow : OpenClaim := { program := "ytgjjimpialgojaa", sum := "38f6ae22674283fa33e6144aa7ed72ef9ebeed96dac44baa952de9fb2accfdd7", func := "seizin/seizinlaw08.ShadowSet", spec := "shadowSet", apart := false, narrowed := true }
def ShadowSetUptoSaid : Prop := shadowSetUptoRow.holds Try.pinned (OpenSpec.upto shadowSetSpec)

/-- 'seizinlaw08.ShadowRows', WHERE WHAT IT READS IS OF BULK AT MOST 1048576: true; the input reads as it did. -/
def shadowRowsUptoRow : OpenClaim := { program := "ytgjjimpialgojaa", sum := "38f6ae22674283fa33e6144aa7ed72ef9ebeed96dac44baa952de9fb2accfdd7", func := "seizin/seizinlaw08.ShadowRows", spec := "shadowRows", apart := false, narrowed := true }
def ShadowRowsUptoSaid : Prop := shadowRowsUptoRow.holds Try.pinned (OpenSpec.upto shadowRowsSpec)

/-- 'seizinlaw08.ShadowBack', WHERE WHAT IT READS IS OF BULK AT MOST 1048576: true; the input reads as it did. -/
def shadowBackUptoRow : OpenClaim := { program := "ytgjjimpialgojaa", sum := "38f6ae22674283fa33e6144aa7ed72ef9ebeed96dac44baa952de9fb2accfdd7", func := "seizin/seizinlaw08.ShadowBack", spec := "shadowBack", apart := false, narrowed := true }
def ShadowBackUptoSaid : Prop := shadowBackUptoRow.holds Try.pinned (OpenSpec.upto shadowBackSpec)

/-- 'seizinlaw08.ShadowParts', WHERE WHAT IT READS IS OF BULK AT MOST 1048576: true; the input reads as it did. -/
def shadowPartsUptoRow : OpenClaim := { program := "ytgjjimpialgojaa", sum := "38f6ae22674283fa33e6144aa7ed72ef9ebeed96dac44baa952de9fb2accfdd7", func := "seizin/seizinlaw08.ShadowParts", spec := "shadowParts", apart := false, narrowed := true }
def ShadowPartsUptoSaid : Prop := shadowPartsUptoRow.holds Try.pinned (OpenSpec.upto shadowPartsSpec)

end Rows
end Go.Proofs.Ytgjjimpialgojaa
