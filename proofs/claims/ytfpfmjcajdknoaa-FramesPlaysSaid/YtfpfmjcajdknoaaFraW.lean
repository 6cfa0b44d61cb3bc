/- Layer 19: two stacks beside one another. -/
import Derived.Test.YtfpfmjcajdknoaaFraS
import Derived.Test.YtfpfmjcajdknoaaFraT
import Derived.Test.YtfpfmjcajdknoaaFraU
import Derived.Test.YtfpfmjcajdknoaaFraV
namespace Go.Proofs.Ytfpfmjcajdknoaa
set_option linter.unusedSimpArgs false
set_option linter.unusedVariables false
open Go.RowKit

open Go.Deep Go.RowKit
theorem frame_eqq (F : Nat → Cap) (o : Oper) (x y : Operand) (s : TypeId) (ρ : Operand → Value) (ho : o.op = .binOp .eql 32 x y s) (hx : ρ x = .agg #[.bool (F 0).tag, .int .i64 (F 0).base, .int .i64 (F 0).top, .int .i64 (F 0).at_, .int .i64 (F 0).perms, .int .i64 (F 0).type, .bool (F 1).tag, .int .i64 (F 1).base, .int .i64 (F 1).top, .int .i64 (F 1).at_, .int .i64 (F 1).perms, .int .i64 (F 1).type, .bool (F 2).tag, .int .i64 (F 2).base, .int .i64 (F 2).top, .int .i64 (F 2).at_, .int .i64 (F 2).perms, .int .i64 (F 2).type, .bool (F 3).tag, .int .i64 (F 3).base, .int .i64 (F 3).top, .int .i64 (F 3).at_, .int .i64 (F 3).perms, .int .i64 (F 3).type, .bool (F 4).tag, .int .i64 (F 4).base, .int .i64 (F 4).top, .int .i64 (F 4).at_, .int .i64 (F 4).perms, .int .i64 (F 4).type]) (hy : ρ y = .agg #[.bool (F 0).tag, .int .i64 (F 0).base, .int .i64 (F 0).top, .int .i64 (F 0).at_, .int .i64 (F 0).perms, .int .i64 (F 0).type, .bool (F 1).tag, .int .i64 (F 1).base, .int .i64 (F 1).top, .int .i64 (F 1).at_, .int .i64 (F 1).perms, .int .i64 (F 1).type, .bool (F 2).tag, .int .i64 (F 2).base, .int .i64 (F 2).top, .int .i64 (F 2).at_, .int .i64 (F 2).perms, .int .i64 (F 2).type, .bool (F 3).tag, .int .i64 (F 3).base, .int .i64 (F 3).top, .int .i64 (F 3).at_, .int .i64 (F 3).perms, .int .i64 (F 3).type, .bool (F 4).tag, .int .i64 (F 4).base, .int .i64 (F 4).top, .int .i64 (F 4).at_, .int .i64 (F 4).perms, .int .i64 (F 4).type]) (w : World) : (execOp ρ o).run Try.prog w = .ok (.value (.bool true)) w := by
  have hg : (eqGuard .eql 32 x y (.agg #[.bool (F 0).tag, .int .i64 (F 0).base, .int .i64 (F 0).top, .int .i64 (F 0).at_, .int .i64 (F 0).perms, .int .i64 (F 0).type, .bool (F 1).tag, .int .i64 (F 1).base, .int .i64 (F 1).top, .int .i64 (F 1).at_, .int .i64 (F 1).perms, .int .i64 (F 1).type, .bool (F 2).tag, .int .i64 (F 2).base, .int .i64 (F 2).top, .int .i64 (F 2).at_, .int .i64 (F 2).perms, .int .i64 (F 2).type, .bool (F 3).tag, .int .i64 (F 3).base, .int .i64 (F 3).top, .int .i64 (F 3).at_, .int .i64 (F 3).perms, .int .i64 (F 3).type, .bool (F 4).tag, .int .i64 (F 4).base, .int .i64 (F 4).top, .int .i64 (F 4).at_, .int .i64 (F 4).perms, .int .i64 (F 4).type]) (.agg #[.bool (F 0).tag, .int .i64 (F 0).base, .int .i64 (F 0).top, .int .i64 (F 0).at_, .int .i64 (F 0).perms, .int .i64 (F 0).type, .bool (F 1).tag, .int .i64 (F 1).base, .int .i64 (F 1).top, .int .i64 (F 1).at_, .int .i64 (F 1).perms, .int .i64 (F 1).type, .bool (F 2).tag, .int .i64 (F 2).base, .int .i64 (F 2).top, .int .i64 (F 2).at_, .int .i64 (F 2).perms, .int .i64 (F 2).type, .bool (F 3).tag, .int .i64 (F 3).base, .int .i64 (F 3).top, .int .i64 (F 3).at_, .int .i64 (F 3).perms, .int .i64 (F 3).type, .bool (F 4).tag, .int .i64 (F 4).base, .int .i64 (F 4).top, .int .i64 (F 4).at_, .int .i64 (F 4).perms, .int .i64 (F 4).type])).run Try.prog w = .ok () w := run_eqGuard_agg w _ _ _ _ _ _ (by kernel_rfl)
  unfold execOp
  rw [ho]
  simp only [hx, hy, Sem.run_bind, hg, Result.andThen_ok, binOp, frame_equal, Sem.run_pure]
theorem RdC.onlyA {w w' : World} {S : Nat → Prop} {A : Option Addr} {n : Nat} {M : Nat → Cap} (h : RdC w A n M) (x : Only S w w') (hs : ∀ b o, A = some ⟨b, o, none⟩ → ¬ S b) : RdC w' A n M := fun h0 => by
  obtain ⟨b, o, e, hr⟩ := h h0
  exact ⟨b, o, e, fun i hi => (hr i hi).only x (hs b o e)⟩
theorem rcapsS_ (q base : Nat) (v : Value) (n : Nat) (L : Nat → Cap) (w : World) (h : RStk w q base v n L) (hn : n ≤ 100000) :
    Calls Try.prog 20 #[.pointer (some ⟨q, 0, none⟩)] w fun e w' => ∃ A ca, e = .returned (.slice A (n * 5) ca) ∧ Hid (RdC w' A (n * 5) L) ∧ Ext w w' := by
  refine (rcaps_ q base v n L w h hn).mono ?_
  rintro e w' ⟨v', rfl, ho, hx⟩
  obtain ⟨A, ca, rfl, hr, _, hc⟩ := owns_caps ho.out
  exact ⟨A, ca, rfl, hid hr, hx⟩
theorem RStk.side {w w' : World} {b base rb base2 n n' : Nat} {v vr : Value} {L L' : Nat → Cap} (hr : RStk w rb base2 vr n L) (hs : Stk w b base v n' L') (hb : b < base2) (hv : ¬ v.ownBlock = some rb) (ho : Only (tch b v) w w') : RStk w' rb base2 vr n L :=
  hr.only ho (by
    rintro (h | h)
    · have := hr.2.2.2.2.1; omega
    · exact hv h) (fun g hg => by
    rintro (h | h)
    · have := (hr.2.2.2.1.lt g hg).1; omega
    · exact owns_apart hr.2.2.2.1 hs.2.2.2.1 (by decide) g hg h)
theorem Stk.side {w w' : World} {b base rb base2 n n' : Nat} {v vr : Value} {L L' : Nat → Cap} (hs : Stk w b base v n' L') (hr : RStk w rb base2 vr n L) (hb : b < base2) (hv : ¬ v.ownBlock = some rb) (ho : Only (tch rb vr) w w') : Stk w' b base v n' L' :=
  hs.only ho (by
    rintro (h | h)
    · have := hr.2.2.2.2.1; omega
    · have := (hr.2.2.2.1.lt _ h).1; omega) (fun g hg => by
    rintro (h | h)
    · exact hv (by rw [hg, h])
    · exact owns_apart hs.2.2.2.1 hr.2.2.2.1 (by decide) g hg h)

end Go.Proofs.Ytfpfmjcajdknoaa
