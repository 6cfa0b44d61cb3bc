/- The document's own answers of layers 1 and 2, as far as later layers ask for them. -/
import Derived.Test.YtgpeabbbeidhpaaCap
namespace Go.Proofs.Ytgpeabbbeidhpaa
set_option linter.unusedSimpArgs false
set_option linter.unusedVariables false
open Go.RowKit

/-- The k-th bit, as the text asks for it. -/
def bitB (p : Int) (k : Nat) : Bool := (p / 2 ^ k).tmod 2 == 1
def hasR (p q : Int) : Bool := (List.range 7).all (fun i => !(bitB q i && !bitB p i)) && rightB p && rightB q
def modR (n : Int) : Int := if n.tmod 4294967296 < 0 then wrap64 (n.tmod 4294967296 + 4294967296) else n.tmod 4294967296
def offR (c : Cap) : Int := modR (wrap64 (modR c.at_ - modR c.base))
def inR (c : Cap) (at_ n : Int) : Bool := decide (0 ≤ at_) && decide (0 ≤ n) && decide (c.base ≤ at_) && decide (at_ ≤ c.top) && decide (n ≤ wrap64 (c.top - max at_ 0))
def underR (c d : Cap) : Bool := decide (c.base ≤ c.top) && decide (d.base ≤ c.base) && decide (c.top ≤ d.top) && hasR d.perms c.perms

set_option maxHeartbeats 400000 in
theorem rright (p : Int) (w : World) :
    Calls Try.prog 46 #[.int .i64 p] w fun e w' => e = .returned (.bool (rightB p)) ∧ w = w' := by
  by_cases h : 0 ≤ p
  all_goals
    go_enter Try.func46, Try.ntmps46
    go_wp2
  all_goals go_ret
  all_goals refine ⟨?_, rfl⟩
  all_goals (simp [rightB] <;> omega)

set_option maxHeartbeats 400000 in
theorem raddr (n : Int) (w : World) :
    Calls Try.prog 45 #[.int .i64 n] w fun e w' => e = .returned (.bool (holdsB 0 4294967295 n)) ∧ w = w' := by
  go_enter Try.func45, Try.ntmps45
  go_wp2
  all_goals go_ret
  all_goals refine ⟨?_, rfl⟩
  all_goals (simp_all [holdsB] <;> omega)

set_option maxHeartbeats 2000000 in
theorem rcapRight (t : Bool) (b tp a p ty : Int) (w : World) :
    Calls Try.prog 33 #[.agg #[.bool t, .int .i64 b, .int .i64 tp, .int .i64 a, .int .i64 p, .int .i64 ty]] w fun e w' => e = .returned (.bool (rightC ⟨t, b, tp, a, p, ty⟩)) ∧ Ext w w' := by
  go_enter Try.func33, Try.ntmps33
  go_wp2_with (first | (go_at_call 45; refine (raddr _ _).mono ?_; rintro e w1 ⟨rfl, rfl⟩) | (go_at_call 46; refine (rright _ _).mono ?_; rintro e w1 ⟨rfl, rfl⟩))
  all_goals go_ret
  all_goals refine ⟨?_, (by repeat (first | (with_reducible exact Ext.refl _) | (with_reducible refine Ext.undrew ?_) | (with_reducible refine Ext.grow ?_ _) | (with_reducible refine Ext.drew ?_) | (with_reducible refine Ext.drewN ?_ _) | (with_reducible refine Ext.alloc ?_ _) | (with_reducible assumption) | ((with_reducible refine Ext.setCell ?_ ?_ _); rotate_left; (first | exact Nat.le_refl _ | (dsimp only; simp only [World.size_alloc, grow_size, World.size_setCell]; omega)))))⟩
  all_goals (go_tidy; simp_all [rightC] <;> (intros; exfalso; omega))

end Go.Proofs.Ytgpeabbbeidhpaa
