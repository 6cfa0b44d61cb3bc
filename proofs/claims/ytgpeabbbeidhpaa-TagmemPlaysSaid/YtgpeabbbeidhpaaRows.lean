/-
  No cell of these rows narrows 'for every input' (looked for: loops, veiled, ifaces, maps, wideKeys, modest, calm, conditions, laid).
  DERIVED. THE GIVEN ROWS OF THIS SEAT. 5 by the template 'for every input the law returns true; each argument reads behind the call as it read before'; 0 by the template 'total and deterministic' (their statements: YtgpeabbbeidhpaaTotals.lean).
  GIVEN WITH THE SEED: the statements are not yours to turn. If you find one false, say at which input.
  Laid BY PROGRAM, IN A SANDBOX (cutbox-rows.mjs): the forced cells as the released guide's own fill.sh prints them over the translation c1d563737ee3522d… (all of the seat's roots in one cut). By AI agents, Wed Nov 11 2026. No macro, syntax, notation, axiom, sorry.
-/
import Derived.Test.YtgpeabbbeidhpaaChecked
import GoSem.Claim
import GoSem.ClaimJoined
import GoSem.ClaimMapViews
import Derived.JoinedTies
import Derived.KernelRfl
namespace Go.Proofs.Ytgpeabbbeidhpaa
/- THE CELL 'sum', in the pinned program and in every row, IS THE sha256 OF THE DUMP (.gsa) THAT YtgpeabbbeidhpaaProg.lean LOADS. Nothing in Lean hashes anything: it is a label: what it is worth is what the hold of that sum in a sandbox is worth. -/
noncomputable def Try.pinned : Pinned := { name := "ytgpeabbbeidhpaa", sum := "c1d563737ee3522d7097f4c98cc5520fa93ae513ae3dfea6ee5709f87cd4bc2a", checked := Try.checked }
namespace Rows
def none {H : Type} : Left H := { results := [], args := [] }

/-- 'seizinlaw07.TagmemPlays': WHATEVER THE INPUT: true; the input reads as it did. -/
def tagmemPlaysSpec : ChangeSpec := { name := "tagmemPlays", fn := fun _ => fun
  | [d1, d2] => { results := [.lit (.bool true)], args := [d1, d2] }
  | _ => none }
def tagmemPlaysRow : OpenClaim := { program := "ytgpeabbbeidhpaa", sum := "c1d563737ee3522d7097f4c98cc5520fa93ae513ae3dfea6ee5709f87cd4bc2a", func := "seizin/seizinlaw07.TagmemPlays", spec := "tagmemPlays", unfollowed := true, recurses := true, apart := false }
def TagmemPlaysSaid : Prop := tagmemPlaysRow.holds Try.pinned (OpenSpec.ofChange tagmemPlaysSpec)

/-- ITS FALSE NEIGHBOUR: 'it returns false'. Refute it at one input. -/
def tagmemPlaysWrong : ChangeSpec := { name := "tagmemPlays", fn := fun _ => fun
  | [d1, d2] => { results := [.lit (.bool false)], args := [d1, d2] }
  | _ => none }
def TagmemPlaysWrongFalsely : Prop := tagmemPlaysRow.holds Try.pinned (OpenSpec.ofChange tagmemPlaysWrong)

/-- 'seizinlaw07.TagmemTags': WHATEVER THE INPUT: true; the input reads as it did. -/
def tagmemTagsSpec : ChangeSpec := { name := "tagmemTags", fn := fun _ => fun
  | [d1, d2] => { results := [.lit (.bool true)], args := [d1, d2] }
  | _ => none }
def tagmemTagsRow : OpenClaim := { program := "ytgpeabbbeidhpaa", sum := "c1d563737ee3522d7097f4c98cc5520fa93ae513ae3dfea6ee5709f87cd4bc2a", func := "seizin/seizinlaw07.TagmemTags", spec := "tagmemTags", unfollowed := true, recurses := true, apart := false }
def TagmemTagsSaid : Prop := tagmemTagsRow.holds Try.pinned (OpenSpec.ofChange tagmemTagsSpec)

/-- ITS FALSE NEIGHBOUR: 'it returns false'. Refute it at one input. -/
def tagmemTagsWrong : ChangeSpec := { name := "tagmemTags", fn := fun _ => fun
  | [d1, d2] => { results := [.lit (.bool false)], args := [d1, d2] }
  | _ => none }
def TagmemTagsWrongFalsely : Prop := tagmemTagsRow.holds Try.pinned (OpenSpec.ofChange tagmemTagsWrong)

/-- 'seizinlaw07.TagmemBack': WHATEVER THE INPUT: true; the input reads as it did. -/
def tagmemBackSpec : ChangeSpec := { name := "tagmemBack", fn := fun _ => fun
  | [d1, d2, d3, d4] => { results := [.lit (.bool true)], args := [d1, d2, d3, d4] }
  | _ => none }
def tagmemBackRow : OpenClaim := { program := "ytgpeabbbeidhpaa", sum := "c1d563737ee3522d7097f4c98cc5520fa93ae513ae3dfea6ee5709f87cd4bc2a", func := "seizin/seizinlaw07.TagmemBack", spec := "tagmemBack", unfollowed := true, recurses := true, apart := false }
def TagmemBackSaid : Prop := tagmemBackRow.holds Try.pinned (OpenSpec.ofChange tagmemBackSpec)

/-- ITS FALSE NEIGHBOUR: 'it returns false'. Refute it at one input. -/
def tagmemBackWrong : ChangeSpec := { name := "tagmemBack", fn := fun _ => fun
  | [d1, d2, d3, d4] => { results := [.lit (.bool false)], args := [d1, d2, d3, d4] }
  | _ => none }
def TagmemBackWrongFalsely : Prop := tagmemBackRow.holds Try.pinned (OpenSpec.ofChange tagmemBackWrong)

/-- 'seizinlaw07.TagmemRefuses': WHATEVER THE INPUT: true; the input reads as it did. -/
def tagmemRefusesSpec : ChangeSpec := { name := "tagmemRefuses", fn := fun _ => fun
  | [d] => { results := [.lit (.bool true)], args := [d] }
  | _ => none }
def tagmemRefusesRow : OpenClaim := { program := "ytgpeabbbeidhpaa", sum := "c1d563737ee3522d7097f4c98cc5520fa93ae513ae3dfea6ee5709f87cd4bc2a", func := "seizin/seizinlaw07.TagmemRefuses", spec := "tagmemRefuses", unfollowed := true, recurses := true, apart := false }
def TagmemRefusesSaid : Prop := tagmemRefusesRow.holds Try.pinned (OpenSpec.ofChange tagmemRefusesSpec)

/-- ITS FALSE NEIGHBOUR: 'it returns false'. Refute it at one input. -/
def tagmemRefusesWrong : ChangeSpec := { name := "tagmemRefuses", fn := fun _ => fun
  | [d] => { results := [.lit (.bool false)], args := [d] }
  | _ => none }
def TagmemRefusesWrongFalsely : Prop := tagmemRefusesRow.holds Try.pinned (OpenSpec.ofChange tagmemRefusesWrong)

/-- 'seizinlaw07.TagmemParts': WHATEVER THE INPUT: true; the input reads as it did. -/
def tagmemPartsSpec : ChangeSpec := { name := "tagmemParts", fn := fun _ => fun
  | [d1, d2, d3, d4] => { results := [.lit (.bool true)], args := [d1, d2, d3, d4] }
  | _ => none }
def tagmemPartsRow : OpenClaim := { program := "ytgpeabbbeidhpaa", sum := "c1d563737ee3522d7097f4c98cc5520fa93ae513ae3dfea6ee5709f87cd4bc2a", func := "seizin/seizinlaw07.TagmemParts", spec := "tagmemParts", unfollowed := true, recurses := true, apart := false }
def TagmemPartsSaid : Prop := tagmemPartsRow.holds Try.pinned (OpenSpec.ofChange tagmemPartsSpec)

/-- ITS FALSE NEIGHBOUR: 'it returns false'. Refute it at one input. -/
def tagmemPartsWrong : ChangeSpec := { name := "tagmemParts", fn := fun _ => fun
  | [d1, d2, d3, d4] => { results := [.lit (.bool false)], args := [d1, d2, d3, d4] }
  | _ => none }
def TagmemPartsWrongFalsely : Prop := tagmemPartsRow.holds Try.pinned (OpenSpec.ofChange tagmemPartsWrong)

/- THE SECOND FORM. 'bulk': how many values and letters a reading holds, each counted each time it is reached (what is shared counts as often as it is met; a slice's spare places count too). A statement '..UptoSaid' is the law's where the arguments, and the package variables that the reading takes, are together of bulk at most 1048576: NARROWER than '..Said'. Prove '..Said' where nothing that the law and all that it calls make is longer than what came in: it says more and counts as full. Else prove '..UptoSaid'. A law counts once. -/
mutual
def uptoBulk {H : Type} : DataW H → Nat
  | .lit (.string bytes) => bytes.length + 1
  | .lit _ => 1
  | .nil => 1
  | .ptr d => uptoBulk d + 1
  | .slice elems spare => uptoBulkAll elems + uptoBulkAll spare + 1
  | .agg parts => uptoBulkAll parts + 1
  | .iface _ d => uptoBulk d + 1
  | .map entries => uptoBulkEntries entries + 1
  | .held _ => 1
def uptoBulkAll {H : Type} : List (DataW H) → Nat
  | [] => 0
  | d :: r => uptoBulk d + uptoBulkAll r
def uptoBulkEntries {H : Type} : List (Lit × DataW H) → Nat
  | [] => 0
  | x :: r => uptoBulkEntry x + uptoBulkEntries r
def uptoBulkEntry {H : Type} : Lit × DataW H → Nat
  | (.string bytes, d) => bytes.length + uptoBulk d + 1
  | (_, d) => uptoBulk d + 1
 end
def uptoSmall : (H : Type) → List (DataW H) → Bool := fun _ ds => decide (uptoBulkAll ds ≤ 1048576)
def OpenSpec.upto (s : _root_.Go.ChangeSpec) : _root_.Go.OpenSpec := { _root_.Go.OpenSpec.ofChange s with cond := some uptoSmall }

/-- 'seizinlaw07.TagmemPlays', WHERE WHAT IT READS IS OF BULK AT MOST 1048576: true; the input reads as it did. -/
def tagmemPlaysUptoRow : OpenClaim := { program := "ytgpeabbbeidhpaa", sum := "c1d563737ee3522d7097f4c98cc5520fa93ae513ae3dfea6ee5709f87cd4bc2a", func := "seizin/seizinlaw07.TagmemPlays", spec := "tagmemPlays", unfollowed := true, recurses := true, apart := false, narrowed := true }
def TagmemPlaysUptoSaid : Prop := tagmemPlaysUptoRow.holds Try.pinned (OpenSpec.upto tagmemPlaysSpec)

/-- 'seizinlaw07.TagmemTags', WHERE WHAT IT READS IS OF BULK AT MOST 1048576: true; the input reads as it did. -/
def tagmemTagsUptoRow : OpenClaim := { program := "ytgpeabbbeidhpaa", sum := "c1d563737ee3522d7097f4c98cc5520fa93ae513ae3dfea6ee5709f87cd4bc2a", func := "seizin/seizinlaw07.TagmemTags", spec := "tagmemTags", unfollowed := true, recurses := true, apart := false, narrowed := true }
def TagmemTagsUptoSaid : Prop := tagmemTagsUptoRow.holds Try.pinned (OpenSpec.upto tagmemTagsSpec)

/-- 'seizinlaw07.TagmemBack', WHERE WHAT IT READS IS OF BULK AT MOST 1048576: true; the input reads as it did. -/
def tagmemBackUptoRow : OpenClaim := { program := "ytgpeabbbeidhpaa", sum := "c1d563737ee3522d7097f4c98cc5520fa93ae513ae3dfea6ee5709f87cd4bc2a", func := "seizin/seizinlaw07.TagmemBack", spec := "tagmemBack", unfollowed := true, recurses := true, apart := false, narrowed := true }
def TagmemBackUptoSaid : Prop := tagmemBackUptoRow.holds Try.pinned (OpenSpec.upto tagmemBackSpec)

/-- 'seizinlaw07.TagmemRefuses', WHERE WHAT IT READS IS OF BULK AT MOST 1048576: true; the input reads as it did. -/
def tagmemRefusesUptoRow : OpenClaim := { program := "ytgpeabbbeidhpaa", sum := "c1d563737ee3522d7097f4c98cc5520fa93ae513ae3dfea6ee5709f87cd4bc2a", func := "seizin/seizinlaw07.TagmemRefuses", spec := "tagmemRefuses", unfollowed := true, recurses := true, apart := false, narrowed := true }
def TagmemRefusesUptoSaid : Prop := tagmemRefusesUptoRow.holds Try.pinned (OpenSpec.upto tagmemRefusesSpec)

/-- 'seizinlaw07.TagmemParts', WHERE WHAT IT READS IS OF BULK AT MOST 1048576: true; the input reads as it did. -/
def tagmemPartsUptoRow : OpenClaim := { program := "ytgpeabbbeidhpaa", sum := "c1d563737ee3522d7097f4c98cc5520fa93ae513ae3dfea6ee5709f87cd4bc2a", func := "seizin/seizinlaw07.TagmemParts", spec := "tagmemParts", unfollowed := true, recurses := true, apart := false, narrowed := true }
def TagmemPartsUptoSaid : Prop := tagmemPartsUptoRow.holds Try.pinned (OpenSpec.upto tagmemPartsSpec)

end Rows
end Go.Proofs.Ytgpeabbbeidhpaa
