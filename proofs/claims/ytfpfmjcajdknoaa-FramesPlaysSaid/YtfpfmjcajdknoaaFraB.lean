/- Layer 19: frames: rows. -/
import Derived.Test.YtfpfmjcajdknoaaFraA
import Derived.Laws.CopyOwn
namespace Go.Proofs.Ytfpfmjcajdknoaa
set_option linter.unusedSimpArgs false
set_option linter.unusedVariables false
open Go.RowKit

section
variable {P : Program} {ops : Array Oper} {rest : List Oper} {a : Act} {w : World} {Q : Exit → Act → World → Prop}
theorem run_copy_rowK (size : Nat) (w : World) (dT sT ty elem : TypeId) (g o dLen dCap : Nat) (a : Addr) (sLen sCap : Nat) (cur : Array Value) (t : TypeId) (cs : List Value)
    (hu : P.underlying dT = some (.slice elem)) (hs : (P.info? elem).map (·.size) = some size)
    (hg : w.heap[g]? = some (.cells cur t (0, 0))) (hn : cs.length = Nat.min sLen dLen * size)
    (hsrc : ∀ j v, cs[j]? = some v → w.cell? (a.add j) = some v) (hfit : o + cs.length ≤ cur.size) (h1 : ∀ v ∈ cs, v.oneCell' = true) :
    (Builtin.copy_ #[dT, sT] ty #[.slice (some ⟨g, o, none⟩) dLen dCap, .slice (some a) sLen sCap]).run P w =
      .ok (goInt (Nat.min sLen dLen)) (w.setRow g (cur.toList.take o ++ cs ++ cur.toList.drop (o + cs.length)).toArray) := by
  have hl := run_loadCells_list (P := P) w a cs hsrc
  have hst := run_storeCells_at P g o t cs 0 cur w hg (by simpa using hfit) h1
  rw [hn] at hl
  cases hq : P.info? elem with
  | none => simp [hq] at hs
  | some i =>
    have hi : i.size = size := by simpa [hq] using hs
    simp [Builtin.copy_, run_underlying hu, Builtin.lenOf, Builtin.firstCells, sizeOf, typeInfo, hq, hi, hl, hst]
/-- copy(own row's middle, rows to be read). -/
theorem wpList_copyK {op : Oper} (hgd : op.guard = none) (d s : Operand) (dT sT : TypeId)
    (ho : op.op = .call { callee := .builtin .copy, args := #[d, s], argTypes := #[dT, sT] }) (elem : TypeId) (hu : P.underlying dT = some (.slice elem)) (size : Nat) (hsz : (P.info? elem).map (·.size) = some size)
    (g off dLen dCap : Nat) (ad : Addr) (sLen sCap : Nat) (hd : a.eval d = .slice (some ⟨g, off, none⟩) dLen dCap) (hs : a.eval s = .slice (some ad) sLen sCap)
    (cur : Array Value) (t : TypeId) (hg : w.heap[g]? = some (.cells cur t (0, 0))) (cs vs : List Value) (hn : cs.length = Nat.min sLen dLen * size)
    (hsrc : ∀ j v, cs[j]? = some v → w.cell? (ad.add j) = some v) (hfit : off + cs.length ≤ cur.size) (h1 : ∀ v ∈ cs, v.oneCell' = true) (hv : cur.toList.take off ++ cs ++ cur.toList.drop (off + cs.length) = vs)
    (h : ∀ w', w'.heap[g]? = some (.cells vs.toArray t (0, 0)) → Only (· = g) w w' → wpList P ops Q rest (a.put op.dst (goInt (Nat.min sLen dLen))) w') : wpList P ops Q (op :: rest) a w := by
  refine wpList_plain hgd fun K hK => ?_
  have hrun := run_copy_rowK (P := P) size w dT sT op.type elem g off dLen dCap ad sLen sCap cur t cs hu hsz hg hn hsrc hfit h1
  unfold Oper.wp
  simp [execOp, ho, resolve, invoke, builtin, hd, hs, hrun, Result.andThen]
  exact hK _ _ (h _ (by rw [← hv, List.append_assoc]; exact setRow_heap w g _ _ t _ hg) ⟨rfl, rfl, rfl, by simp [World.setRow], fun k _ hne => setRow_other w g k _ fun e => hne e⟩)
theorem results_cell_mid {fn : Func} {p : Tmp} {ty : TypeId} (h : fn.results = #[.cell p ty]) (tmps : Array Value) (w : World) (b o : Nat) (cs : List Value) (d : TypeDesc)
    (hp : tmps.getD p undef = .pointer (some ⟨b, o, none⟩)) (hc : w.rangeAt b o cs)
    (hu : P.underlying ty = some d) (hd : d.isRow = true) (hi : (P.info? ty).map (·.size) = some cs.length) : (results fn tmps).run P w = .ok (.agg cs.toArray) w := by
  have hp' : tmps[p]?.getD undef = .pointer (some ⟨b, o, none⟩) := by simpa using hp
  simp [results, h, hp', asAddr, run_loadVar_mid w b o ty cs d hc hu hd hi]
/-- The world as a letter. -/
theorem wp_gen {c : Code} (I : World → Prop) (hI : I w) (h : ∀ w', I w' → c.wp P Q a w') : c.wp P Q a w := h w hI
end
theorem heap_last {w : World} {o : Obj} {n : Nat} (hn : n = w.heap.size) : (w.alloc o).heap[n]? = some o := by
  subst hn
  exact heap_alloc_new w o
theorem there_newAt {w : World} {b : Nat} {cs : Array Value} {T : TypeId} {n : Nat} (hb : b = w.heap.size) (h : cs.size = n) : b < (w.alloc (.cells cs T)).heap.size ∧ (w.alloc (.cells cs T)).there b 0 n := by
  subst hb
  exact ⟨by simp, there_new w cs T n h⟩
theorem there_only {S : Nat → Prop} {w w' : World} {b o n : Nat} (h : b < w.heap.size ∧ w.there b o n) (x : Only S w w') (hs : ¬ S b) : w'.there b o n := fun j hj => by
  rw [x.cells b _ h.1 hs, x.frozens b _ h.1 hs]
  exact h.2 j hj
theorem range_of_heap {w : World} {g : Nat} {vs : List Value} {t : TypeId} (h : w.heap[g]? = some (.cells vs.toArray t (0, 0))) : w.rangeAt g 0 vs := fun j v hj => by
  rw [Nat.zero_add]
  simp [World.cell?, h]
  simpa using hj
theorem Only.mono {S T : Nat → Prop} {w w' : World} (h : Only S w w') (k : ∀ i, S i → T i) : Only T w w' := ⟨h.os, h.tape, h.output, h.size, fun i hi hn => h.block i hi fun hs => hn (k i hs)⟩
def zeroRow : List Value := capsList 4 fun _ => nullC
set_option maxRecDepth 100000 in
set_option maxHeartbeats 4000000 in
theorem rowOf_ (F : Nat → Cap) (B o ca : Nat) (w : World) (hA : Rng w B o (capsList 4 fun i => F (i + 1))) :
    Calls Try.prog 25 #[.agg #[.bool (F 0).tag, .int .i64 (F 0).base, .int .i64 (F 0).top, .int .i64 (F 0).at_, .int .i64 (F 0).perms, .int .i64 (F 0).type], .slice (some ⟨B, o, none⟩) 4 ca] w fun e w' => e = .returned (.agg (capsList 5 F).toArray) ∧ Ext w w' := by
  have HA := hid hA
  clear hA
  go_enter Try.func25, Try.ntmps25
  go_upto_region 3 with (fail)
  refine wp_gen (fun W => Hid (Ext w W) ∧ Hid (W.heap[w.heap.size + 1 + 1]? = some (.cells ((F 0).cells ++ zeroRow).toArray 54 (0, 0))) ∧ Hid (w.heap.size + 1 < W.heap.size ∧ W.there (w.heap.size + 1) 0 30)) ⟨hid (by repeat (first | (with_reducible exact Ext.refl _) | (with_reducible refine Ext.undrew ?_) | (with_reducible refine Ext.grow ?_ _) | (with_reducible refine Ext.drew ?_) | (with_reducible refine Ext.drewN ?_ _) | (with_reducible refine Ext.alloc ?_ _) | (with_reducible assumption) | ((with_reducible refine Ext.setCell ?_ ?_ _); rotate_left; (first | exact Nat.le_refl _ | ((try dsimp only); (try simp only [World.size_alloc, grow_size, World.size_setCell]); omega))))), hid (heap_last (by simp)), hid ⟨by simp, there_ext (there_newAt (by simp) rfl) (Ext.alloc (Ext.refl _) _)⟩⟩ ?_
  rintro W2 ⟨hE, h5, hth⟩
  go_wp2_with (first
    | (refine wpList_copyK rfl (.tmp 8) (.tmp 9) 37 37 rfl 29 Try.underlying37 6 (by kernel_rfl) (w.heap.size + 1 + 1) 6 4 4 ⟨B, o, none⟩ 4 ca rfl rfl _ _ h5.out (capsList 4 fun i => F (i + 1)) (capsList 5 F) (by rw [capsList_length]; rfl)
        (fun j v hj => by rw [Addr.add_lit]; exact (HA.out.ext hE.out).at_ j v hj) (by simp [zeroRow, capsList_length, cells_length]) (capsList_one _ _) (by rw [capsList_length]; rfl) ?_; intro W3 h3 ho)
    | (refine wpList_load_mid rfl 54 (.tmp 5) rfl (w.heap.size + 1 + 1) 0 rfl (capsList 5 F) _ (range_of_heap h3) Try.underlying54 rfl (by rw [capsList_length]; kernel_rfl) ?_)
    | (refine wpList_store_mid rfl 54 (.tmp 4) (.tmp 11) rfl (w.heap.size + 1) 0 (capsList 5 F).toArray rfl rfl (by rw [capsArr_size]; exact there_only hth.out ho (by simp)) (by rw [capsArr_size]; kernel_rfl) (capsArr_one _ _) ?_))
  refine bodyPost_ret (results_cell_mid rfl _ _ (w.heap.size + 1) 0 (capsList 5 F) _ rfl ?_ Try.underlying54 rfl (by rw [capsList_length]; kernel_rfl)) rfl ⟨rfl, ?_⟩
  · exact World.rangeAt_setCells_same _ _ _ _ (by rw [capsList_length]; exact there_only hth.out ho (by simp))
  · exact Ext.only hE.out (Only.setCells (.inl (.inr rfl)) _ _ (ho.mono (T := fun i => i = w.heap.size + 1 + 1 ∨ i = w.heap.size + 1) fun i h => .inl h)) (by rintro i (rfl | rfl) <;> omega)
end Go.Proofs.Ytfpfmjcajdknoaa
