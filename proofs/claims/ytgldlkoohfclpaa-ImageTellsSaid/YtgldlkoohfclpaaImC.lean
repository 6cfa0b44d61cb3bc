/- Layer 17: all. -/
import Derived.Test.YtgldlkoohfclpaaImB
namespace Go.Proofs.Ytgldlkoohfclpaa
set_option linter.unusedSimpArgs false
set_option linter.unusedVariables false
open Go.RowKit

set_option maxRecDepth 100000 in
set_option maxHeartbeats 4000000 in
theorem notCmp_ (F : FuncId) (P : Value) (v : Bool) (d : Cmp) (pb : Nat) (w : World) (hp : w.cell? ⟨pb, 0, none⟩ = some (.func (.func F) #[] #[P])) (hpl : pb < w.heap.size) (hfn : ∀ args w', Sem.run Try.prog (callFunc F args) w' = .ok (.enter F args) w') (hq : ∀ W, Ext w W → Calls Try.prog F #[.agg #[.slice d.A d.bl.length d.ca, .int .i64 d.data], P] W fun e w' => e = .returned (.bool v) ∧ Ext W w') :
    Calls Try.prog 67 #[.agg #[.slice d.A d.bl.length d.ca, .int .i64 d.data], .pointer (some ⟨pb, 0, none⟩)] w fun e w' => e = .returned (.bool (!v)) ∧ Ext w w' := by
  have HQ := hid hq
  clear hq
  go_enter Try.func67, Try.ntmps67
  go_wp2_with fail
  refine (HQ.out _ (by repeat (first | (with_reducible exact Ext.refl _) | (with_reducible refine Ext.undrew ?_) | (with_reducible refine Ext.grow ?_ _) | (with_reducible refine Ext.drew ?_) | (with_reducible refine Ext.drewN ?_ _) | (with_reducible refine Ext.alloc ?_ _) | (with_reducible assumption) | ((with_reducible refine Ext.setCell ?_ ?_ _); rotate_left; (first | exact Nat.le_refl _ | ((try dsimp only); (try simp only [World.size_alloc, grow_size, World.size_setCell]); omega)))))).mono ?_; rintro e W1 ⟨rfl, hy⟩
  have HY := hid (Ext.trans ((Ext.refl _).alloc _) hy)
  clear hy
  go_wp2
  go_ret
  exact ⟨rfl, HY.out⟩
theorem allCmp_ (F : FuncId) (P : Value) (q : Cmp → Bool) (A : Option Addr) (n ca : Nat) (cs : List Cmp) (w : World) (hA : RdF Cmp.cells w A cs) (hn : cs.length = n) (hb : n ≤ 1000000) (hfn : ∀ args w', Sem.run Try.prog (callFunc F args) w' = .ok (.enter F args) w') (hq : ∀ d : Cmp, d ∈ cs → ∀ W, Ext w W → Calls Try.prog F #[.agg #[.slice d.A d.bl.length d.ca, .int .i64 d.data], P] W fun e w' => e = .returned (.bool (q d)) ∧ Ext W w') :
    Calls Try.prog 37 #[.slice A n ca, .func (.func F) #[] #[P]] w fun e w' => e = .returned (.bool (cs.all q)) ∧ Ext w w' := by
  have HC : Hid (∀ W pb, Ext w W → pb < W.heap.size → W.cell? ⟨pb, 0, none⟩ = some (.func (.func F) #[] #[P]) → Calls Try.prog 66 #[.slice A n ca, .func (.func 67) #[] #[.pointer (some ⟨pb, 0, none⟩)]] W fun e w' => e = .returned (.bool (!cs.all q)) ∧ Ext W w') := hid (fun W pb hx hl hc => by
    have h9 := contCmp_ 67 (.pointer (some ⟨pb, 0, none⟩)) (fun d => !q d) A n ca cs W (hA.ext hx) hn hb (fun args V => enterOf Try.func67 (by kernel_rfl) rfl args V) (fun d hd V hv => notCmp_ F P (q d) d pb V ((hv.cells pb 0 hl).trans hc) (Nat.lt_of_lt_of_le hl hv.size) hfn (fun V2 h2 => hq d hd V2 (hx.trans (hv.trans h2))))
    rw [show (cs.any fun d => !q d) = !cs.all q by rw [List.not_all_eq_any_not]] at h9
    exact h9)
  clear hA hq hfn
  go_enter Try.func37, Try.ntmps37
  go_wp2_with fail
  refine (HC.out _ w.heap.size (by repeat (first | (with_reducible exact Ext.refl _) | (with_reducible refine Ext.undrew ?_) | (with_reducible refine Ext.grow ?_ _) | (with_reducible refine Ext.drew ?_) | (with_reducible refine Ext.drewN ?_ _) | (with_reducible refine Ext.alloc ?_ _) | (with_reducible assumption) | ((with_reducible refine Ext.setCell ?_ ?_ _); rotate_left; (first | exact Nat.le_refl _ | ((try dsimp only); (try simp only [World.size_alloc, grow_size, World.size_setCell]); omega))))) (by simp) (by simp [go_sem])).mono ?_; rintro e W1 ⟨rfl, hy⟩
  have HY := hid (Ext.trans ((Ext.refl _).alloc _) hy)
  clear hy
  go_wp2
  go_ret
  first | exact ⟨by simp, HY.out⟩ | exact ⟨rfl, HY.out⟩
set_option maxRecDepth 100000 in
set_option maxHeartbeats 4000000 in
theorem notLnk_ (F : FuncId) (P : Value) (v : Bool) (d : Lnk) (pb : Nat) (w : World) (hp : w.cell? ⟨pb, 0, none⟩ = some (.func (.func F) #[] #[P])) (hpl : pb < w.heap.size) (hfn : ∀ args w', Sem.run Try.prog (callFunc F args) w' = .ok (.enter F args) w') (hq : ∀ W, Ext w W → Calls Try.prog F #[.agg #[.int .i64 d.fr, .int .i64 d.to_, .int .i64 d.at_], P] W fun e w' => e = .returned (.bool v) ∧ Ext W w') :
    Calls Try.prog 72 #[.agg #[.int .i64 d.fr, .int .i64 d.to_, .int .i64 d.at_], .pointer (some ⟨pb, 0, none⟩)] w fun e w' => e = .returned (.bool (!v)) ∧ Ext w w' := by
  have HQ := hid hq
  clear hq
  go_enter Try.func72, Try.ntmps72
  go_wp2_with fail
  refine (HQ.out _ (by repeat (first | (with_reducible exact Ext.refl _) | (with_reducible refine Ext.undrew ?_) | (with_reducible refine Ext.grow ?_ _) | (with_reducible refine Ext.drew ?_) | (with_reducible refine Ext.drewN ?_ _) | (with_reducible refine Ext.alloc ?_ _) | (with_reducible assumption) | ((with_reducible refine Ext.setCell ?_ ?_ _); rotate_left; (first | exact Nat.le_refl _ | ((try dsimp only); (try simp only [World.size_alloc, grow_size, World.size_setCell]); omega)))))).mono ?_; rintro e W1 ⟨rfl, hy⟩
  have HY := hid (Ext.trans ((Ext.refl _).alloc _) hy)
  clear hy
  go_wp2
  go_ret
  exact ⟨rfl, HY.out⟩
theorem allLnk_ (F : FuncId) (P : Value) (q : Lnk → Bool) (A : Option Addr) (n ca : Nat) (cs : List Lnk) (w : World) (hA : RdF Lnk.cells w A cs) (hn : cs.length = n) (hb : n ≤ 1000000) (hfn : ∀ args w', Sem.run Try.prog (callFunc F args) w' = .ok (.enter F args) w') (hq : ∀ d : Lnk, d ∈ cs → ∀ W, Ext w W → Calls Try.prog F #[.agg #[.int .i64 d.fr, .int .i64 d.to_, .int .i64 d.at_], P] W fun e w' => e = .returned (.bool (q d)) ∧ Ext W w') :
    Calls Try.prog 40 #[.slice A n ca, .func (.func F) #[] #[P]] w fun e w' => e = .returned (.bool (cs.all q)) ∧ Ext w w' := by
  have HC : Hid (∀ W pb, Ext w W → pb < W.heap.size → W.cell? ⟨pb, 0, none⟩ = some (.func (.func F) #[] #[P]) → Calls Try.prog 71 #[.slice A n ca, .func (.func 72) #[] #[.pointer (some ⟨pb, 0, none⟩)]] W fun e w' => e = .returned (.bool (!cs.all q)) ∧ Ext W w') := hid (fun W pb hx hl hc => by
    have h9 := contLnk_ 72 (.pointer (some ⟨pb, 0, none⟩)) (fun d => !q d) A n ca cs W (hA.ext hx) hn hb (fun args V => enterOf Try.func72 (by kernel_rfl) rfl args V) (fun d hd V hv => notLnk_ F P (q d) d pb V ((hv.cells pb 0 hl).trans hc) (Nat.lt_of_lt_of_le hl hv.size) hfn (fun V2 h2 => hq d hd V2 (hx.trans (hv.trans h2))))
    rw [show (cs.any fun d => !q d) = !cs.all q by rw [List.not_all_eq_any_not]] at h9
    exact h9)
  clear hA hq hfn
  go_enter Try.func40, Try.ntmps40
  go_wp2_with fail
  refine (HC.out _ w.heap.size (by repeat (first | (with_reducible exact Ext.refl _) | (with_reducible refine Ext.undrew ?_) | (with_reducible refine Ext.grow ?_ _) | (with_reducible refine Ext.drew ?_) | (with_reducible refine Ext.drewN ?_ _) | (with_reducible refine Ext.alloc ?_ _) | (with_reducible assumption) | ((with_reducible refine Ext.setCell ?_ ?_ _); rotate_left; (first | exact Nat.le_refl _ | ((try dsimp only); (try simp only [World.size_alloc, grow_size, World.size_setCell]); omega))))) (by simp) (by simp [go_sem])).mono ?_; rintro e W1 ⟨rfl, hy⟩
  have HY := hid (Ext.trans ((Ext.refl _).alloc _) hy)
  clear hy
  go_wp2
  go_ret
  first | exact ⟨by simp, HY.out⟩ | exact ⟨rfl, HY.out⟩
set_option maxRecDepth 100000 in
set_option maxHeartbeats 4000000 in
theorem notShr_ (F : FuncId) (P : Value) (v : Bool) (d : Shr) (pb : Nat) (w : World) (hp : w.cell? ⟨pb, 0, none⟩ = some (.func (.func F) #[] #[P])) (hpl : pb < w.heap.size) (hfn : ∀ args w', Sem.run Try.prog (callFunc F args) w' = .ok (.enter F args) w') (hq : ∀ W, Ext w W → Calls Try.prog F #[.agg #[.int .i64 d.rd, .int .i64 d.wr_], P] W fun e w' => e = .returned (.bool v) ∧ Ext W w') :
    Calls Try.prog 74 #[.agg #[.int .i64 d.rd, .int .i64 d.wr_], .pointer (some ⟨pb, 0, none⟩)] w fun e w' => e = .returned (.bool (!v)) ∧ Ext w w' := by
  have HQ := hid hq
  clear hq
  go_enter Try.func74, Try.ntmps74
  go_wp2_with fail
  refine (HQ.out _ (by repeat (first | (with_reducible exact Ext.refl _) | (with_reducible refine Ext.undrew ?_) | (with_reducible refine Ext.grow ?_ _) | (with_reducible refine Ext.drew ?_) | (with_reducible refine Ext.drewN ?_ _) | (with_reducible refine Ext.alloc ?_ _) | (with_reducible assumption) | ((with_reducible refine Ext.setCell ?_ ?_ _); rotate_left; (first | exact Nat.le_refl _ | ((try dsimp only); (try simp only [World.size_alloc, grow_size, World.size_setCell]); omega)))))).mono ?_; rintro e W1 ⟨rfl, hy⟩
  have HY := hid (Ext.trans ((Ext.refl _).alloc _) hy)
  clear hy
  go_wp2
  go_ret
  exact ⟨rfl, HY.out⟩
theorem allShr_ (F : FuncId) (P : Value) (q : Shr → Bool) (A : Option Addr) (n ca : Nat) (cs : List Shr) (w : World) (hA : RdF Shr.cells w A cs) (hn : cs.length = n) (hb : n ≤ 1000000) (hfn : ∀ args w', Sem.run Try.prog (callFunc F args) w' = .ok (.enter F args) w') (hq : ∀ d : Shr, d ∈ cs → ∀ W, Ext w W → Calls Try.prog F #[.agg #[.int .i64 d.rd, .int .i64 d.wr_], P] W fun e w' => e = .returned (.bool (q d)) ∧ Ext W w') :
    Calls Try.prog 43 #[.slice A n ca, .func (.func F) #[] #[P]] w fun e w' => e = .returned (.bool (cs.all q)) ∧ Ext w w' := by
  have HC : Hid (∀ W pb, Ext w W → pb < W.heap.size → W.cell? ⟨pb, 0, none⟩ = some (.func (.func F) #[] #[P]) → Calls Try.prog 73 #[.slice A n ca, .func (.func 74) #[] #[.pointer (some ⟨pb, 0, none⟩)]] W fun e w' => e = .returned (.bool (!cs.all q)) ∧ Ext W w') := hid (fun W pb hx hl hc => by
    have h9 := contShr_ 74 (.pointer (some ⟨pb, 0, none⟩)) (fun d => !q d) A n ca cs W (hA.ext hx) hn hb (fun args V => enterOf Try.func74 (by kernel_rfl) rfl args V) (fun d hd V hv => notShr_ F P (q d) d pb V ((hv.cells pb 0 hl).trans hc) (Nat.lt_of_lt_of_le hl hv.size) hfn (fun V2 h2 => hq d hd V2 (hx.trans (hv.trans h2))))
    rw [show (cs.any fun d => !q d) = !cs.all q by rw [List.not_all_eq_any_not]] at h9
    exact h9)
  clear hA hq hfn
  go_enter Try.func43, Try.ntmps43
  go_wp2_with fail
  refine (HC.out _ w.heap.size (by repeat (first | (with_reducible exact Ext.refl _) | (with_reducible refine Ext.undrew ?_) | (with_reducible refine Ext.grow ?_ _) | (with_reducible refine Ext.drew ?_) | (with_reducible refine Ext.drewN ?_ _) | (with_reducible refine Ext.alloc ?_ _) | (with_reducible assumption) | ((with_reducible refine Ext.setCell ?_ ?_ _); rotate_left; (first | exact Nat.le_refl _ | ((try dsimp only); (try simp only [World.size_alloc, grow_size, World.size_setCell]); omega))))) (by simp) (by simp [go_sem])).mono ?_; rintro e W1 ⟨rfl, hy⟩
  have HY := hid (Ext.trans ((Ext.refl _).alloc _) hy)
  clear hy
  go_wp2
  go_ret
  first | exact ⟨by simp, HY.out⟩ | exact ⟨rfl, HY.out⟩

end Go.Proofs.Ytgldlkoohfclpaa
