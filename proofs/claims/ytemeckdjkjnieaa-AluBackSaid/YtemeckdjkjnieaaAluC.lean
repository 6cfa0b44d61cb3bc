/- Layer 20: what an instruction makes of two numbers. -/
import Derived.Test.YtemeckdjkjnieaaAluB
namespace Go.Proofs.Ytemeckdjkjnieaa
set_option linter.unusedSimpArgs false
set_option linter.unusedVariables false
open Go.RowKit


def doV (op a b : Int) : Int := if op = 3 then m32 (m32 a + m32 b) else if op = 4 then m32 (m32 a - m32 b) else if op = 5 then m32 (m32 a * m32 b) else if op = 6 then (if m32 b = 0 then 0 else m32 a / m32 b) else if op = 7 then lt32 (m32 a) (m32 b) else if op = 8 then eq32 (m32 a) (m32 b) else 0
def doE (op b : Int) : Int := if op = 6 ∧ m32 b = 0 then 201 else if 3 ≤ op ∧ op ≤ 8 then 0 else 151
theorem ediv_bd {a b : Int} (h0 : 0 ≤ a) (h1 : a ≤ 4294967295) (h2 : 0 ≤ b) : 0 ≤ a / b ∧ a / b ≤ 4294967295 := by
  refine ⟨Int.ediv_nonneg h0 h2, ?_⟩
  have := Int.ediv_le_self b h0
  omega
theorem quo_bd {a b : Int} (h0 : 0 ≤ a) (h1 : a ≤ 4294967295) (h2 : 0 ≤ b) : 0 ≤ (if b = 0 then 0 else a / b) ∧ (if b = 0 then 0 else a / b) ≤ 4294967295 := by
  split
  · omega
  · exact ediv_bd h0 h1 h2
theorem lt32_bd (a b : Int) : 0 ≤ lt32 a b ∧ lt32 a b ≤ 4294967295 := by unfold lt32; split <;> omega
theorem eq32_bd (a b : Int) : 0 ≤ eq32 a b ∧ eq32 a b ≤ 4294967295 := by unfold eq32; split <;> omega

set_option maxRecDepth 100000 in
set_option maxHeartbeats 4000000 in
theorem do_ (op a b : Int) (w : World) :
    Calls Try.prog 10 #[.int .i64 op, .int .i64 a, .int .i64 b] w fun e w' => e = .returned (.tuple #[.int .i64 (doV op a b), .int .i64 (doE op b)]) ∧ Ext w w' := by
  have hz : ∀ w, (zeroValue 41).run Try.prog w = .ok (.agg #[.nilFunc]) w := fun w => by kernel_rfl
  have hfn : ∀ args w', Sem.run Try.prog (callFunc 29 args) w' = .ok (.enter 29 args) w' := fun args w' => enterOf Try.func29 (by kernel_rfl) (by kernel_rfl) _ _
  have hfq : ∀ args w', Sem.run Try.prog (callFunc 25 args) w' = .ok (.enter 25 args) w' := fun args w' => enterOf Try.func25 (by kernel_rfl) (by kernel_rfl) _ _
  have ha : 0 ≤ a % 4294967296 ∧ a % 4294967296 ≤ 4294967295 := m32_bd a
  have hb : 0 ≤ b % 4294967296 ∧ b % 4294967296 ≤ 4294967295 := m32_bd b
  by_cases h3 : op = 3
  · subst h3
    have hbd := m32_bd ((a % 4294967296) + (b % 4294967296))
    go_enter Try.func10, Try.ntmps10
    go_wp2_with (go_at_call 19; refine (operations _).mono ?_; rintro e w1 ⟨g, p3, p4, p5, p7, q7, p8, q8, rfl, hx, ho⟩)
    rw [run_look Try.underlying43 Try.underlying3 w1 ho.map 3 (.agg #[.nilFunc]) (hz w1) (some (0, .agg #[.func (.func 29) #[] #[.pointer (some ⟨p3, 0, none⟩)]])) rfl]
    go_wp2_with (go_at_call 29; refine (finAdd _ _ p3 _ (cell_ext (by repeat (first | (with_reducible exact Ext.refl _) | (with_reducible refine Ext.undrew ?_) | (with_reducible refine Ext.grow ?_ _) | (with_reducible refine Ext.drew ?_) | (with_reducible refine Ext.drewN ?_ _) | (with_reducible refine Ext.alloc ?_ _) | (with_reducible assumption) | ((with_reducible refine Ext.setCell ?_ ?_ _); rotate_left; (first | exact Nat.le_refl _ | ((try dsimp only); (try simp only [World.size_alloc, grow_size, World.size_setCell]); omega))))) ⟨ho.lp3, ho.cp3⟩).2).mono ?_; rintro e w2 ⟨rfl, rfl⟩)
    all_goals go_ret2
    all_goals refine ⟨?_, (by repeat (first | (with_reducible exact Ext.refl _) | (with_reducible refine Ext.undrew ?_) | (with_reducible refine Ext.grow ?_ _) | (with_reducible refine Ext.drew ?_) | (with_reducible refine Ext.drewN ?_ _) | (with_reducible refine Ext.alloc ?_ _) | (with_reducible assumption) | ((with_reducible refine Ext.setCell ?_ ?_ _); rotate_left; (first | exact Nat.le_refl _ | ((try dsimp only); (try simp only [World.size_alloc, grow_size, World.size_setCell]); omega)))))⟩
    all_goals (first | (simp [doV, doE, m32]; done) | (simp [doV, doE, m32, *]; done) | (simp_all [doV, doE, m32]; done))
  by_cases h4 : op = 4
  · subst h4
    have hbd := m32_bd ((a % 4294967296) - (b % 4294967296))
    go_enter Try.func10, Try.ntmps10
    go_wp2_with (go_at_call 19; refine (operations _).mono ?_; rintro e w1 ⟨g, p3, p4, p5, p7, q7, p8, q8, rfl, hx, ho⟩)
    rw [run_look Try.underlying43 Try.underlying3 w1 ho.map 4 (.agg #[.nilFunc]) (hz w1) (some (1, .agg #[.func (.func 29) #[] #[.pointer (some ⟨p4, 0, none⟩)]])) rfl]
    go_wp2_with (go_at_call 29; refine (finSub _ _ p4 _ (cell_ext (by repeat (first | (with_reducible exact Ext.refl _) | (with_reducible refine Ext.undrew ?_) | (with_reducible refine Ext.grow ?_ _) | (with_reducible refine Ext.drew ?_) | (with_reducible refine Ext.drewN ?_ _) | (with_reducible refine Ext.alloc ?_ _) | (with_reducible assumption) | ((with_reducible refine Ext.setCell ?_ ?_ _); rotate_left; (first | exact Nat.le_refl _ | ((try dsimp only); (try simp only [World.size_alloc, grow_size, World.size_setCell]); omega))))) ⟨ho.lp4, ho.cp4⟩).2).mono ?_; rintro e w2 ⟨rfl, rfl⟩)
    all_goals go_ret2
    all_goals refine ⟨?_, (by repeat (first | (with_reducible exact Ext.refl _) | (with_reducible refine Ext.undrew ?_) | (with_reducible refine Ext.grow ?_ _) | (with_reducible refine Ext.drew ?_) | (with_reducible refine Ext.drewN ?_ _) | (with_reducible refine Ext.alloc ?_ _) | (with_reducible assumption) | ((with_reducible refine Ext.setCell ?_ ?_ _); rotate_left; (first | exact Nat.le_refl _ | ((try dsimp only); (try simp only [World.size_alloc, grow_size, World.size_setCell]); omega)))))⟩
    all_goals (first | (simp [doV, doE, m32]; done) | (simp [doV, doE, m32, *]; done) | (simp_all [doV, doE, m32]; done))
  by_cases h5 : op = 5
  · subst h5
    have hbd := m32_bd ((a % 4294967296) * (b % 4294967296))
    go_enter Try.func10, Try.ntmps10
    go_wp2_with (go_at_call 19; refine (operations _).mono ?_; rintro e w1 ⟨g, p3, p4, p5, p7, q7, p8, q8, rfl, hx, ho⟩)
    rw [run_look Try.underlying43 Try.underlying3 w1 ho.map 5 (.agg #[.nilFunc]) (hz w1) (some (2, .agg #[.func (.func 29) #[] #[.pointer (some ⟨p5, 0, none⟩)]])) rfl]
    go_wp2_with (go_at_call 29; refine (finMul _ _ p5 _ (cell_ext (by repeat (first | (with_reducible exact Ext.refl _) | (with_reducible refine Ext.undrew ?_) | (with_reducible refine Ext.grow ?_ _) | (with_reducible refine Ext.drew ?_) | (with_reducible refine Ext.drewN ?_ _) | (with_reducible refine Ext.alloc ?_ _) | (with_reducible assumption) | ((with_reducible refine Ext.setCell ?_ ?_ _); rotate_left; (first | exact Nat.le_refl _ | ((try dsimp only); (try simp only [World.size_alloc, grow_size, World.size_setCell]); omega))))) ⟨ho.lp5, ho.cp5⟩).2).mono ?_; rintro e w2 ⟨rfl, rfl⟩)
    all_goals go_ret2
    all_goals refine ⟨?_, (by repeat (first | (with_reducible exact Ext.refl _) | (with_reducible refine Ext.undrew ?_) | (with_reducible refine Ext.grow ?_ _) | (with_reducible refine Ext.drew ?_) | (with_reducible refine Ext.drewN ?_ _) | (with_reducible refine Ext.alloc ?_ _) | (with_reducible assumption) | ((with_reducible refine Ext.setCell ?_ ?_ _); rotate_left; (first | exact Nat.le_refl _ | ((try dsimp only); (try simp only [World.size_alloc, grow_size, World.size_setCell]); omega)))))⟩
    all_goals (first | (simp [doV, doE, m32]; done) | (simp [doV, doE, m32, *]; done) | (simp_all [doV, doE, m32]; done))
  by_cases h6 : op = 6
  · subst h6
    have hbd := quo_bd ha.1 ha.2 hb.1
    go_enter Try.func10, Try.ntmps10
    go_wp2_with (go_at_call 19; refine (operations _).mono ?_; rintro e w1 ⟨g, p3, p4, p5, p7, q7, p8, q8, rfl, hx, ho⟩)
    rw [run_look Try.underlying43 Try.underlying3 w1 ho.map 6 (.agg #[.nilFunc]) (hz w1) (some (3, .agg #[.func (.func 25) #[] #[]])) rfl]
    go_wp2_with (go_at_call 25; refine (quotient _ _ _ (by omega) (by omega) (by omega) (by omega)).mono ?_; rintro e w2 ⟨rfl, rfl⟩)
    all_goals go_ret2
    all_goals refine ⟨?_, (by repeat (first | (with_reducible exact Ext.refl _) | (with_reducible refine Ext.undrew ?_) | (with_reducible refine Ext.grow ?_ _) | (with_reducible refine Ext.drew ?_) | (with_reducible refine Ext.drewN ?_ _) | (with_reducible refine Ext.alloc ?_ _) | (with_reducible assumption) | ((with_reducible refine Ext.setCell ?_ ?_ _); rotate_left; (first | exact Nat.le_refl _ | ((try dsimp only); (try simp only [World.size_alloc, grow_size, World.size_setCell]); omega)))))⟩
    all_goals (first | (simp [doV, doE, m32]; done) | (simp [doV, doE, m32, *]; done) | (simp_all [doV, doE, m32]; done))
  by_cases h7 : op = 7
  · subst h7
    have hbd := lt32_bd (a % 4294967296) (b % 4294967296)
    go_enter Try.func10, Try.ntmps10
    go_wp2_with (go_at_call 19; refine (operations _).mono ?_; rintro e w1 ⟨g, p3, p4, p5, p7, q7, p8, q8, rfl, hx, ho⟩)
    rw [run_look Try.underlying43 Try.underlying3 w1 ho.map 7 (.agg #[.nilFunc]) (hz w1) (some (4, .agg #[.func (.func 29) #[] #[.pointer (some ⟨p7, 0, none⟩)]])) rfl]
    go_wp2_with (go_at_call 29; refine (finLt _ _ p7 q7 _ (cell_ext (by repeat (first | (with_reducible exact Ext.refl _) | (with_reducible refine Ext.undrew ?_) | (with_reducible refine Ext.grow ?_ _) | (with_reducible refine Ext.drew ?_) | (with_reducible refine Ext.drewN ?_ _) | (with_reducible refine Ext.alloc ?_ _) | (with_reducible assumption) | ((with_reducible refine Ext.setCell ?_ ?_ _); rotate_left; (first | exact Nat.le_refl _ | ((try dsimp only); (try simp only [World.size_alloc, grow_size, World.size_setCell]); omega))))) ⟨ho.lp7, ho.cp7⟩).2 (cell_ext (by repeat (first | (with_reducible exact Ext.refl _) | (with_reducible refine Ext.undrew ?_) | (with_reducible refine Ext.grow ?_ _) | (with_reducible refine Ext.drew ?_) | (with_reducible refine Ext.drewN ?_ _) | (with_reducible refine Ext.alloc ?_ _) | (with_reducible assumption) | ((with_reducible refine Ext.setCell ?_ ?_ _); rotate_left; (first | exact Nat.le_refl _ | ((try dsimp only); (try simp only [World.size_alloc, grow_size, World.size_setCell]); omega))))) ⟨ho.lq7, ho.cq7⟩).2).mono ?_; rintro e w2 ⟨rfl, rfl⟩)
    all_goals go_ret2
    all_goals refine ⟨?_, (by repeat (first | (with_reducible exact Ext.refl _) | (with_reducible refine Ext.undrew ?_) | (with_reducible refine Ext.grow ?_ _) | (with_reducible refine Ext.drew ?_) | (with_reducible refine Ext.drewN ?_ _) | (with_reducible refine Ext.alloc ?_ _) | (with_reducible assumption) | ((with_reducible refine Ext.setCell ?_ ?_ _); rotate_left; (first | exact Nat.le_refl _ | ((try dsimp only); (try simp only [World.size_alloc, grow_size, World.size_setCell]); omega)))))⟩
    all_goals (first | (simp [doV, doE, m32]; done) | (simp [doV, doE, m32, *]; done) | (simp_all [doV, doE, m32]; done))
  by_cases h8 : op = 8
  · subst h8
    have hbd := eq32_bd (a % 4294967296) (b % 4294967296)
    go_enter Try.func10, Try.ntmps10
    go_wp2_with (go_at_call 19; refine (operations _).mono ?_; rintro e w1 ⟨g, p3, p4, p5, p7, q7, p8, q8, rfl, hx, ho⟩)
    rw [run_look Try.underlying43 Try.underlying3 w1 ho.map 8 (.agg #[.nilFunc]) (hz w1) (some (5, .agg #[.func (.func 29) #[] #[.pointer (some ⟨p8, 0, none⟩)]])) rfl]
    go_wp2_with (go_at_call 29; refine (finEq _ _ p8 q8 _ (cell_ext (by repeat (first | (with_reducible exact Ext.refl _) | (with_reducible refine Ext.undrew ?_) | (with_reducible refine Ext.grow ?_ _) | (with_reducible refine Ext.drew ?_) | (with_reducible refine Ext.drewN ?_ _) | (with_reducible refine Ext.alloc ?_ _) | (with_reducible assumption) | ((with_reducible refine Ext.setCell ?_ ?_ _); rotate_left; (first | exact Nat.le_refl _ | ((try dsimp only); (try simp only [World.size_alloc, grow_size, World.size_setCell]); omega))))) ⟨ho.lp8, ho.cp8⟩).2 (cell_ext (by repeat (first | (with_reducible exact Ext.refl _) | (with_reducible refine Ext.undrew ?_) | (with_reducible refine Ext.grow ?_ _) | (with_reducible refine Ext.drew ?_) | (with_reducible refine Ext.drewN ?_ _) | (with_reducible refine Ext.alloc ?_ _) | (with_reducible assumption) | ((with_reducible refine Ext.setCell ?_ ?_ _); rotate_left; (first | exact Nat.le_refl _ | ((try dsimp only); (try simp only [World.size_alloc, grow_size, World.size_setCell]); omega))))) ⟨ho.lq8, ho.cq8⟩).2).mono ?_; rintro e w2 ⟨rfl, rfl⟩)
    all_goals go_ret2
    all_goals refine ⟨?_, (by repeat (first | (with_reducible exact Ext.refl _) | (with_reducible refine Ext.undrew ?_) | (with_reducible refine Ext.grow ?_ _) | (with_reducible refine Ext.drew ?_) | (with_reducible refine Ext.drewN ?_ _) | (with_reducible refine Ext.alloc ?_ _) | (with_reducible assumption) | ((with_reducible refine Ext.setCell ?_ ?_ _); rotate_left; (first | exact Nat.le_refl _ | ((try dsimp only); (try simp only [World.size_alloc, grow_size, World.size_setCell]); omega)))))⟩
    all_goals (first | (simp [doV, doE, m32]; done) | (simp [doV, doE, m32, *]; done) | (simp_all [doV, doE, m32]; done))
  · have hnf : ∀ p3 p4 p5 p7 p8 : Nat, Instr.findNow (.int .i64) (.int .i64 op) [(⟨.int .i64 3, .agg #[.func (.func 29) #[] #[.pointer (some ⟨p3, 0, none⟩)]], 0⟩ : MapEntry), (⟨.int .i64 4, .agg #[.func (.func 29) #[] #[.pointer (some ⟨p4, 0, none⟩)]], 1⟩ : MapEntry), (⟨.int .i64 5, .agg #[.func (.func 29) #[] #[.pointer (some ⟨p5, 0, none⟩)]], 2⟩ : MapEntry), (⟨.int .i64 6, .agg #[.func (.func 25) #[] #[]], 3⟩ : MapEntry), (⟨.int .i64 7, .agg #[.func (.func 29) #[] #[.pointer (some ⟨p7, 0, none⟩)]], 4⟩ : MapEntry), (⟨.int .i64 8, .agg #[.func (.func 29) #[] #[.pointer (some ⟨p8, 0, none⟩)]], 5⟩ : MapEntry)] 0 = some none := by
      intros
      simp [Instr.findNow, Instr.sameNow, show (op == 3) = false by simpa using h3, show (op == 4) = false by simpa using h4, show (op == 5) = false by simpa using h5, show (op == 6) = false by simpa using h6, show (op == 7) = false by simpa using h7, show (op == 8) = false by simpa using h8]
    have hv : doV op a b = 0 := by simp [doV, h3, h4, h5, h6, h7, h8]
    have he : doE op b = 151 := by simp only [doE, h6, false_and, if_false]; rw [if_neg (by omega)]
    have HN := hid hnf
    have HV := hid hv
    have HE := hid he
    clear hnf hv he
    go_enter Try.func10, Try.ntmps10
    go_wp2_with (go_at_call 19; refine (operations _).mono ?_; rintro e w1 ⟨g, p3, p4, p5, p7, q7, p8, q8, rfl, hx, ho⟩)
    rw [run_look Try.underlying43 Try.underlying3 w1 ho.map op (.agg #[.nilFunc]) (hz w1) none (HN.out _ _ _ _ _)]
    go_wp2
    go_ret2
    exact ⟨by rw [HV.out, HE.out]; rfl, (by repeat (first | (with_reducible exact Ext.refl _) | (with_reducible refine Ext.undrew ?_) | (with_reducible refine Ext.grow ?_ _) | (with_reducible refine Ext.drew ?_) | (with_reducible refine Ext.drewN ?_ _) | (with_reducible refine Ext.alloc ?_ _) | (with_reducible assumption) | ((with_reducible refine Ext.setCell ?_ ?_ _); rotate_left; (first | exact Nat.le_refl _ | ((try dsimp only); (try simp only [World.size_alloc, grow_size, World.size_setCell]); omega)))))⟩

def isB (op : Int) : Bool := decide (3 ≤ op ∧ op ≤ 8)
set_option maxRecDepth 100000 in
set_option maxHeartbeats 4000000 in
theorem is_ (op : Int) (w : World) :
    Calls Try.prog 12 #[.int .i64 op] w fun e w' => e = .returned (.bool (isB op)) ∧ Ext w w' := by
  have hz : ∀ w, (zeroValue 41).run Try.prog w = .ok (.agg #[.nilFunc]) w := fun w => by kernel_rfl
  by_cases h3 : op = 3
  · subst h3
    go_enter Try.func12, Try.ntmps12
    go_wp2_with (go_at_call 19; refine (operations _).mono ?_; rintro e w1 ⟨g, p3, p4, p5, p7, q7, p8, q8, rfl, hx, ho⟩)
    rw [run_look Try.underlying43 Try.underlying3 w1 ho.map 3 (.agg #[.nilFunc]) (hz w1) (some (0, .agg #[.func (.func 29) #[] #[.pointer (some ⟨p3, 0, none⟩)]])) rfl]
    go_wp2
    go_ret
    exact ⟨rfl, (by repeat (first | (with_reducible exact Ext.refl _) | (with_reducible refine Ext.undrew ?_) | (with_reducible refine Ext.grow ?_ _) | (with_reducible refine Ext.drew ?_) | (with_reducible refine Ext.drewN ?_ _) | (with_reducible refine Ext.alloc ?_ _) | (with_reducible assumption) | ((with_reducible refine Ext.setCell ?_ ?_ _); rotate_left; (first | exact Nat.le_refl _ | ((try dsimp only); (try simp only [World.size_alloc, grow_size, World.size_setCell]); omega)))))⟩
  by_cases h4 : op = 4
  · subst h4
    go_enter Try.func12, Try.ntmps12
    go_wp2_with (go_at_call 19; refine (operations _).mono ?_; rintro e w1 ⟨g, p3, p4, p5, p7, q7, p8, q8, rfl, hx, ho⟩)
    rw [run_look Try.underlying43 Try.underlying3 w1 ho.map 4 (.agg #[.nilFunc]) (hz w1) (some (1, .agg #[.func (.func 29) #[] #[.pointer (some ⟨p4, 0, none⟩)]])) rfl]
    go_wp2
    go_ret
    exact ⟨rfl, (by repeat (first | (with_reducible exact Ext.refl _) | (with_reducible refine Ext.undrew ?_) | (with_reducible refine Ext.grow ?_ _) | (with_reducible refine Ext.drew ?_) | (with_reducible refine Ext.drewN ?_ _) | (with_reducible refine Ext.alloc ?_ _) | (with_reducible assumption) | ((with_reducible refine Ext.setCell ?_ ?_ _); rotate_left; (first | exact Nat.le_refl _ | ((try dsimp only); (try simp only [World.size_alloc, grow_size, World.size_setCell]); omega)))))⟩
  by_cases h5 : op = 5
  · subst h5
    go_enter Try.func12, Try.ntmps12
    go_wp2_with (go_at_call 19; refine (operations _).mono ?_; rintro e w1 ⟨g, p3, p4, p5, p7, q7, p8, q8, rfl, hx, ho⟩)
    rw [run_look Try.underlying43 Try.underlying3 w1 ho.map 5 (.agg #[.nilFunc]) (hz w1) (some (2, .agg #[.func (.func 29) #[] #[.pointer (some ⟨p5, 0, none⟩)]])) rfl]
    go_wp2
    go_ret
    exact ⟨rfl, (by repeat (first | (with_reducible exact Ext.refl _) | (with_reducible refine Ext.undrew ?_) | (with_reducible refine Ext.grow ?_ _) | (with_reducible refine Ext.drew ?_) | (with_reducible refine Ext.drewN ?_ _) | (with_reducible refine Ext.alloc ?_ _) | (with_reducible assumption) | ((with_reducible refine Ext.setCell ?_ ?_ _); rotate_left; (first | exact Nat.le_refl _ | ((try dsimp only); (try simp only [World.size_alloc, grow_size, World.size_setCell]); omega)))))⟩
  by_cases h6 : op = 6
  · subst h6
    go_enter Try.func12, Try.ntmps12
    go_wp2_with (go_at_call 19; refine (operations _).mono ?_; rintro e w1 ⟨g, p3, p4, p5, p7, q7, p8, q8, rfl, hx, ho⟩)
    rw [run_look Try.underlying43 Try.underlying3 w1 ho.map 6 (.agg #[.nilFunc]) (hz w1) (some (3, .agg #[.func (.func 25) #[] #[]])) rfl]
    go_wp2
    go_ret
    exact ⟨rfl, (by repeat (first | (with_reducible exact Ext.refl _) | (with_reducible refine Ext.undrew ?_) | (with_reducible refine Ext.grow ?_ _) | (with_reducible refine Ext.drew ?_) | (with_reducible refine Ext.drewN ?_ _) | (with_reducible refine Ext.alloc ?_ _) | (with_reducible assumption) | ((with_reducible refine Ext.setCell ?_ ?_ _); rotate_left; (first | exact Nat.le_refl _ | ((try dsimp only); (try simp only [World.size_alloc, grow_size, World.size_setCell]); omega)))))⟩
  by_cases h7 : op = 7
  · subst h7
    go_enter Try.func12, Try.ntmps12
    go_wp2_with (go_at_call 19; refine (operations _).mono ?_; rintro e w1 ⟨g, p3, p4, p5, p7, q7, p8, q8, rfl, hx, ho⟩)
    rw [run_look Try.underlying43 Try.underlying3 w1 ho.map 7 (.agg #[.nilFunc]) (hz w1) (some (4, .agg #[.func (.func 29) #[] #[.pointer (some ⟨p7, 0, none⟩)]])) rfl]
    go_wp2
    go_ret
    exact ⟨rfl, (by repeat (first | (with_reducible exact Ext.refl _) | (with_reducible refine Ext.undrew ?_) | (with_reducible refine Ext.grow ?_ _) | (with_reducible refine Ext.drew ?_) | (with_reducible refine Ext.drewN ?_ _) | (with_reducible refine Ext.alloc ?_ _) | (with_reducible assumption) | ((with_reducible refine Ext.setCell ?_ ?_ _); rotate_left; (first | exact Nat.le_refl _ | ((try dsimp only); (try simp only [World.size_alloc, grow_size, World.size_setCell]); omega)))))⟩
  by_cases h8 : op = 8
  · subst h8
    go_enter Try.func12, Try.ntmps12
    go_wp2_with (go_at_call 19; refine (operations _).mono ?_; rintro e w1 ⟨g, p3, p4, p5, p7, q7, p8, q8, rfl, hx, ho⟩)
    rw [run_look Try.underlying43 Try.underlying3 w1 ho.map 8 (.agg #[.nilFunc]) (hz w1) (some (5, .agg #[.func (.func 29) #[] #[.pointer (some ⟨p8, 0, none⟩)]])) rfl]
    go_wp2
    go_ret
    exact ⟨rfl, (by repeat (first | (with_reducible exact Ext.refl _) | (with_reducible refine Ext.undrew ?_) | (with_reducible refine Ext.grow ?_ _) | (with_reducible refine Ext.drew ?_) | (with_reducible refine Ext.drewN ?_ _) | (with_reducible refine Ext.alloc ?_ _) | (with_reducible assumption) | ((with_reducible refine Ext.setCell ?_ ?_ _); rotate_left; (first | exact Nat.le_refl _ | ((try dsimp only); (try simp only [World.size_alloc, grow_size, World.size_setCell]); omega)))))⟩
  · have hnf : ∀ p3 p4 p5 p7 p8 : Nat, Instr.findNow (.int .i64) (.int .i64 op) [(⟨.int .i64 3, .agg #[.func (.func 29) #[] #[.pointer (some ⟨p3, 0, none⟩)]], 0⟩ : MapEntry), (⟨.int .i64 4, .agg #[.func (.func 29) #[] #[.pointer (some ⟨p4, 0, none⟩)]], 1⟩ : MapEntry), (⟨.int .i64 5, .agg #[.func (.func 29) #[] #[.pointer (some ⟨p5, 0, none⟩)]], 2⟩ : MapEntry), (⟨.int .i64 6, .agg #[.func (.func 25) #[] #[]], 3⟩ : MapEntry), (⟨.int .i64 7, .agg #[.func (.func 29) #[] #[.pointer (some ⟨p7, 0, none⟩)]], 4⟩ : MapEntry), (⟨.int .i64 8, .agg #[.func (.func 29) #[] #[.pointer (some ⟨p8, 0, none⟩)]], 5⟩ : MapEntry)] 0 = some none := by
      intros
      simp [Instr.findNow, Instr.sameNow, show (op == 3) = false by simpa using h3, show (op == 4) = false by simpa using h4, show (op == 5) = false by simpa using h5, show (op == 6) = false by simpa using h6, show (op == 7) = false by simpa using h7, show (op == 8) = false by simpa using h8]
    have hv : isB op = false := by simp only [isB, decide_eq_false_iff_not]; omega
    have HN := hid hnf
    have HV := hid hv
    clear hnf hv
    go_enter Try.func12, Try.ntmps12
    go_wp2_with (go_at_call 19; refine (operations _).mono ?_; rintro e w1 ⟨g, p3, p4, p5, p7, q7, p8, q8, rfl, hx, ho⟩)
    rw [run_look Try.underlying43 Try.underlying3 w1 ho.map op (.agg #[.nilFunc]) (hz w1) none (HN.out _ _ _ _ _)]
    go_wp2
    go_ret
    exact ⟨by rw [HV.out]; rfl, (by repeat (first | (with_reducible exact Ext.refl _) | (with_reducible refine Ext.undrew ?_) | (with_reducible refine Ext.grow ?_ _) | (with_reducible refine Ext.drew ?_) | (with_reducible refine Ext.drewN ?_ _) | (with_reducible refine Ext.alloc ?_ _) | (with_reducible assumption) | ((with_reducible refine Ext.setCell ?_ ?_ _); rotate_left; (first | exact Nat.le_refl _ | ((try dsimp only); (try simp only [World.size_alloc, grow_size, World.size_setCell]); omega)))))⟩

end Go.Proofs.Ytemeckdjkjnieaa
