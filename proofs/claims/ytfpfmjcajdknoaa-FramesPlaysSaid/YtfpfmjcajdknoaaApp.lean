/- Capabilities appended to a slice of the call its own. -/
import Derived.Test.YtfpfmjcajdknoaaCaps
import Derived.Deep.AppendLies
import Derived.OwnWalk
namespace Go.Proofs.Ytfpfmjcajdknoaa
set_option linter.unusedSimpArgs false
set_option linter.unusedVariables false
open Go.RowKit


theorem info_cap : (Try.prog.info? 29).map (fun i => (i.zero, i.size, i.bytes)) = some (some (.agg #[.bool false, .int .i64 0, .int .i64 0, .int .i64 0, .int .i64 0, .int .i64 0]), 6, 48) := by kernel_rfl
theorem Ext.owned {a w w' : World} {e : TypeId} {size n : Nat} {v : Value} {xs : List Value} (h : Ext a w) (hown : w.ownsRow a.heap.size e size v n xs) (hg : w.grownBy w' v.ownBlock) : Ext a w' :=
  Below.grown h hg h.size fun k hk => (hown.lt k hk).1
theorem owns_nil (w : World) (base : Nat) (e : TypeId) (size : Nat) : w.ownsRow base e size (.slice none 0 0) 0 [] := ⟨by simp, .inl ⟨rfl, rfl⟩⟩
/-- What a slice of the call's own reads as. -/
theorem owns_caps {w : World} {base : Nat} {e : TypeId} {v : Value} {k : Nat} {L : Nat → Cap} (h : w.ownsRow base e 6 v k (capsList k L)) : ∃ A ca, v = .slice A k ca ∧ RdC w A k L ∧ (∀ b o, A = some ⟨b, o, none⟩ → base ≤ b) ∧ k ≤ ca := by
  rcases h.2 with ⟨rfl, rfl⟩ | ⟨g, cap, cur, rfl, hb, hg, hn, _, hs, ht⟩
  · exact ⟨none, 0, rfl, fun h0 => absurd h0 (by omega), (fun _ _ h => by cases h), Nat.le_refl _⟩
  · refine ⟨some ⟨g, 0, none⟩, cap, rfl, fun h0 => ⟨g, 0, rfl, fun i hi => ?_⟩, (fun b o h => by cases h; exact hb), hn⟩
    refine ⟨(Array.getElem?_eq_some_iff.1 hg).1, fun j v hj => ?_⟩
    have hlt : j < 6 := (List.getElem?_eq_some_iff.1 hj).1
    rw [cell_of_row w g _ cur e (0, 0) hg]
    have h1 := capsList_at k L i j hi hlt
    rw [← ht, hj, List.getElem?_take, if_pos (by omega)] at h1
    rw [Nat.zero_add]
    simpa using h1

end Go.Proofs.Ytfpfmjcajdknoaa
