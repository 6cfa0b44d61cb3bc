/- Layer 16: Parse. -/
import Derived.Test.YtdhpbofpomefoaaDoorAsmC
namespace Go.Proofs.YtdhpbofpomefoaaDoor
set_option linter.unusedSimpArgs false
set_option linter.unusedVariables false
open Go.RowKit

theorem wordsGo_ne : ∀ (l cur : List UInt8), wordsGo cur l ≠ []
  | [], cur => by simp [wordsGo]
  | b :: l, cur => by
    rw [wordsGo_cons]
    split
    · simp
    · exact wordsGo_ne l _
theorem words_ne (l : List UInt8) : words l ≠ [] := by rw [words_go l.length l (Nat.le_refl _)]; exact wordsGo_ne _ _
theorem wordsGo_len : ∀ (l cur : List UInt8), ∀ w ∈ wordsGo cur l, w.length ≤ cur.length + l.length
  | [], cur, w, h => by
    obtain rfl : w = cur := by simpa [wordsGo] using h
    simp
  | b :: l, cur, w, h => by
    rw [wordsGo_cons] at h
    split at h
    · rcases List.mem_cons.1 h with rfl | h
      · simp
      · have := wordsGo_len l [] w h
        simp only [List.length_cons, List.length_nil] at this ⊢
        omega
    · have := wordsGo_len l _ w h
      simp only [List.length_append, List.length_cons, List.length_nil] at this ⊢
      omega
theorem words_len {l : List UInt8} : ∀ w ∈ words l, w.length ≤ l.length := by
  intro w h
  rw [words_go l.length l (Nat.le_refl _)] at h
  have := wordsGo_len l [] w h
  simpa using this
theorem wordsGo_cnt : ∀ (l cur : List UInt8), (wordsGo cur l).length ≤ l.length + 1
  | [], cur => by simp [wordsGo]
  | b :: l, cur => by
    rw [wordsGo_cons]
    split
    · have := wordsGo_cnt l []
      simp only [List.length_cons]
      omega
    · have := wordsGo_cnt l (cur ++ [b])
      simp only [List.length_cons]
      omega
theorem words_cnt (l : List UInt8) : (words l).length ≤ l.length + 1 := by rw [words_go l.length l (Nat.le_refl _)]; exact wordsGo_cnt _ _
theorem trimR_len (l : List UInt8) : (trimR l).length ≤ l.length := by
  unfold trimR
  split
  · exact Nat.le_refl _
  · split
    · simp
    · exact Nat.le_refl _
def valT (w : List UInt8) : Int := valA (trimR w)
/-- What stands in the parts, and which words are left, behind so many kinds. -/
def partP (val : List UInt8 → Int) (s : ByteArray) (ws : List (List UInt8)) : Nat → (Nat → Int) × List (List UInt8)
  | 0 => (fun _ => 0, ws)
  | i + 1 => if chAt s i = 118 ∨ chAt s i = 45 ∨ (partP val s ws i).2 = [] then partP val s ws i else (fun j => if j = i then val ((partP val s ws i).2.headD []) else (partP val s ws i).1 j, (partP val s ws i).2.tail)
theorem partP_skip {val : List UInt8 → Int} {s : ByteArray} {ws : List (List UInt8)} {i : Nat} (h : chAt s i = 118 ∨ chAt s i = 45 ∨ (partP val s ws i).2 = []) : partP val s ws (i + 1) = partP val s ws i := by
  rw [partP, if_pos h]
theorem partP_take {val : List UInt8 → Int} {s : ByteArray} {ws : List (List UInt8)} {i : Nat} (h1 : ¬ chAt s i = 118) (h2 : ¬ chAt s i = 45) {v : List UInt8} {r : List (List UInt8)} (h3 : (partP val s ws i).2 = v :: r) : partP val s ws (i + 1) = (fun j => if j = i then val v else (partP val s ws i).1 j, r) := by
  rw [partP, if_neg (by rw [h3]; simp [h1, h2]), h3]
  rfl
theorem partP_mem {val : List UInt8 → Int} {s : ByteArray} {ws : List (List UInt8)} : ∀ i, ∀ v ∈ (partP val s ws i).2, v ∈ ws
  | 0, v, h => h
  | i + 1, v, h => by
    rw [partP] at h
    split at h
    · exact partP_mem i v h
    · exact partP_mem i v (List.mem_of_mem_tail h)
theorem partP_all (val : List UInt8 → Int) (op : Int) (ws : List (List UInt8)) : (match eatN val (ptK (kd op)) ws with | [a, b, c] => (⟨op, a, b, c⟩ : In) | _ => ⟨op, 0, 0, 0⟩) = ⟨op, (partP val (kstr (kd op)) ws (kstr (kd op)).size).1 0, (partP val (kstr (kd op)) ws (kstr (kd op)).size).1 1, (partP val (kstr (kd op)) ws (kstr (kd op)).size).1 2⟩ := by
  rcases kd_cases op with e | e | e | e | e | e | e | e
  · rw [e]; rfl
  all_goals
    rw [e]
    rcases ws with _ | ⟨u, _ | ⟨v, _ | ⟨x, ws⟩⟩⟩ <;> rfl
theorem cand_is (val : List UInt8 → Int) {s : List UInt8} {w0 : List UInt8} {ws : List (List UInt8)} (h : words s = w0 :: ws) : candN val s = ⟨idxN w0, (partP val (kstr (kd (idxN w0))) ws (kstr (kd (idxN w0))).size).1 0, (partP val (kstr (kd (idxN w0))) ws (kstr (kd (idxN w0))).size).1 1, (partP val (kstr (kd (idxN w0))) ws (kstr (kd (idxN w0))).size).1 2⟩ := by
  rw [← partP_all]
  unfold candN
  rw [h]
  rfl
def PV (w : World) (pb : Nat) (v : Nat → Int) : Prop := pb < w.heap.size ∧ ∀ j, j < 3 → w.cell? ⟨pb, j, none⟩ = some (.int .i64 (v j)) ∧ w.frozen? ⟨pb, j, none⟩ = false
theorem PV.only {S : Nat → Prop} {w w' : World} {pb : Nat} {v : Nat → Int} (h : PV w pb v) (x : Only S w w') (hn : ¬ S pb) : PV w' pb v := ⟨Nat.lt_of_lt_of_le h.1 x.size, fun j hj => ⟨(x.cells pb _ h.1 hn).trans (h.2 j hj).1, (x.frozens pb _ h.1 hn).trans (h.2 j hj).2⟩⟩
theorem PV.ext {w w' : World} {pb : Nat} {v : Nat → Int} (h : PV w pb v) (x : Ext w w') : PV w' pb v := h.only (Only.ofExt (S := fun _ => False) x) id
theorem PV.set {w : World} {pb i : Nat} {v : Nat → Int} (h : PV w pb v) (hi : i < 3) (z : Int) : PV (w.setCell ⟨pb, i, none⟩ (.int .i64 z)) pb (fun j => if j = i then z else v j) := by
  refine ⟨by rw [World.size_setCell]; exact h.1, fun j hj => ⟨?_, by rw [World.frozen?_setCell]; exact (h.2 j hj).2⟩⟩
  by_cases e : j = i
  · subst e
    show _ = some (Value.int .i64 (if j = j then z else v j))
    rw [if_pos rfl]
    apply World.cell?_setCell_same
    exact (h.2 j hj).1
  · show _ = some (Value.int .i64 (if j = i then z else v j))
    rw [if_neg e, World.cell?_setCell_other (h := show (⟨pb, i, none⟩ : Addr) ≠ ⟨pb, j, none⟩ from fun c => e (by injection c with c1 c2; exact c2.symm))]
    exact (h.2 j hj).1
theorem PV.new (w : World) (T : TypeId) : PV (w.alloc (.cells #[.int .i64 0, .int .i64 0, .int .i64 0] T)) w.heap.size (fun _ => 0) := by
  have h := Row.new w #[.int .i64 0, .int .i64 0, .int .i64 0] T
  refine ⟨h.lt, fun j hj => ⟨?_, ?_⟩⟩
  · have := h.at_ j (.int .i64 0) (by match j, hj with | 0, _ => rfl | 1, _ => rfl | 2, _ => rfl)
    simpa using this
  · have h9 := h.free j (by simpa using hj)
    rw [Nat.zero_add] at h9
    exact h9
theorem row_atc {w : World} {b : Nat} {vs : List Value} (h : Row w b 0 vs) (j : Nat) (hj : j < vs.length) (u : Value) : Row (w.setCell ⟨b, j, none⟩ u) b 0 (vs.set j u) := by
  have h0 : w.cell? ⟨b, j, none⟩ = some vs[j] := by have := h.at_ j vs[j] (by simp); simpa using this
  refine ⟨by rw [World.size_setCell]; exact h.lt, fun i v hi => ?_, fun i hi => ?_⟩
  · by_cases e : i = j
    · subst e
      rw [List.getElem?_set_self hj] at hi
      obtain rfl : u = v := by simpa using hi
      rw [Nat.zero_add]
      apply World.cell?_setCell_same
      exact h0
    · rw [List.getElem?_set_ne (by omega)] at hi
      rw [Nat.zero_add, World.cell?_setCell_other (h := show (⟨b, j, none⟩ : Addr) ≠ ⟨b, i, none⟩ from fun c => e (by injection c with c1 c2; exact c2.symm))]
      simpa using h.at_ i v hi
  · rw [World.frozen?_setCell]
    exact h.free i (by simpa using hi)
def insV (x : In) : Value := .agg #[.int .i64 x.op, .int .i64 x.a, .int .i64 x.b, .int .i64 x.c]
set_option maxRecDepth 100000 in
set_option maxHeartbeats 4000000 in
theorem parse_ (s0 : ByteArray) (w : World) (ht : Tb w) (hsz : s0.size ≤ 1000000) : Calls Tryd.prog 10 #[.string s0] w fun e w' => e = .returned (.tuple #[insV (parseN valT s0.data.toList).1, .bool (parseN valT s0.data.toList).2]) ∧ Ext w w' := by
  have HT := hid ht
  clear ht
  obtain ⟨w0, ws, hw⟩ : ∃ w0 ws, words s0.data.toList = w0 :: ws := by
    cases h : words s0.data.toList with
    | nil => exact absurd h (words_ne _)
    | cons a b => exact ⟨a, b, rfl⟩
  have HW := hid hw
  have HC := hid (cand_is valT hw)
  obtain ⟨nw, hnw⟩ : ∃ n, ws.length = n := ⟨_, rfl⟩
  have HNW := hid hnw
  have hnb : nw ≤ 1000001 := by
    have h1 := words_cnt s0.data.toList
    have h2 : s0.data.toList.length = s0.size := by show s0.data.toList.length = s0.data.size; simp
    rw [hw, List.length_cons, hnw, h2] at h1
    omega
  clear hw hnw
  go_enter Tryd.func10, Tryd.ntmps10
  go_upto_region 1 with (fail)
  refine wp_gen (fun V => Hid (Ext w V) ∧ Hid (Row V w.heap.size 0 [.int .i64 0, .int .i64 0, .int .i64 0, .int .i64 0])) ⟨hid (by repeat (first | (with_reducible exact Ext.refl _) | (with_reducible refine Ext.undrew ?_) | (with_reducible refine Ext.grow ?_ _) | (with_reducible refine Ext.drew ?_) | (with_reducible refine Ext.drewN ?_ _) | (with_reducible refine Ext.alloc ?_ _) | (with_reducible assumption) | ((with_reducible refine Ext.setCell ?_ ?_ _); rotate_left; (first | exact Nat.le_refl _ | ((try dsimp only); (try simp only [World.size_alloc, grow_size, World.size_setCell]); omega))))), hid (Row.new w _ _)⟩ ?_
  rintro V0 ⟨HX0, HR0⟩
  obtain ⟨rr, hrr⟩ : ∃ z, w.heap.size = z := ⟨_, rfl⟩
  have HRG := hid hrr
  rw [hrr] at HR0 ⊢
  clear hrr
  go_upto_region 2 with (go_at_call 22; refine (split_ s0 _ (HT.out.ext HX0.out) hsz).mono ?_; rw [HW.out, List.length_cons, HNW.out]; rintro e w1 ⟨rb, rfl, hx1, hws⟩)
  obtain ⟨op, hop⟩ : ∃ z, idxN w0 = z := ⟨_, rfl⟩
  have HOP := hid hop
  have hcand : candN valT s0.data.toList = ⟨op, (partP valT (kstr (kd op)) ws (kstr (kd op)).size).1 0, (partP valT (kstr (kd op)) ws (kstr (kd op)).size).1 1, (partP valT (kstr (kd op)) ws (kstr (kd op)).size).1 2⟩ := by
    have := HC.out
    rw [hop] at this
    exact this
  have HR1 := hid (HR0.out.ext hx1.out)
  have HX1 := hid (HX0.out.trans hx1.out)
  have c0 := hws.out.head
  have hrb := hws.out.1
  clear HR0 HX0 hx1 hop HC
  refine wp_region_step (.rd 1 (.rd 2 (.rd 3 (.ac 0 (.ac 4 (.rd 5 .done)))))) (by kernel_rfl) (by kernel_rfl) (fun _ _ d _ _ h => by cases d <;> exact h) (by simp only [Ord.map, nthOp, List.append]; rfl) ?_
  intro d0
  repeat (refine step_read (by rfl) (fun K hK => ?_); go_big_quiet_op; refine hK _ ?_; clear hK K)
  refine step_act (by rfl) (fun K hK => ?_)
  go_wp2_with (go_at_call 24; refine (fields_ _ ((HT.out.ext HX1.out).ext (by repeat (first | (with_reducible exact Ext.refl _) | (with_reducible refine Ext.undrew ?_) | (with_reducible refine Ext.grow ?_ _) | (with_reducible refine Ext.drew ?_) | (with_reducible refine Ext.drewN ?_ _) | (with_reducible refine Ext.alloc ?_ _) | (with_reducible assumption) | ((with_reducible refine Ext.setCell ?_ ?_ _); rotate_left; (first | exact Nat.le_refl _ | ((try dsimp only); (try simp only [World.size_alloc, grow_size, World.size_setCell]); omega))))))).mono ?_; rintro e w2 ⟨fb, rfl, hx2, hb2, hc2⟩)
  refine ⟨_, Ext.refl _, hx2.out, ?_⟩
  refine step_act (by rfl) (fun K hK => ?_)
  go_wp2_with (go_at_call 23; refine (index_nm fb 30 w0 _ hc2.out).mono ?_; rw [HOP.out]; rintro e w3 ⟨rfl, rfl⟩)
  refine ⟨_, Ext.refl _, hx2.out, ?_⟩
  repeat (refine step_read (by rfl) (fun K hK => ?_); go_big_quiet_op; refine hK _ ?_; clear hK K)
  refine step_nil ?_
  have hxx : Ext w1 w3 := (Ext.grow (Ext.refl w1) d0).trans hx2.out
  have HR2 := hid (HR1.out.ext hxx)
  have HX2 := hid (HX1.out.trans hxx)
  have HWT : Hid (WS w3 rb 1 ws) := hid (hws.out.ext hxx).tail
  have hrb2 : rb < w3.heap.size := HWT.out.1
  clear HR1 HX1 hws c0 hrb hx2 hb2 hc2 hxx
  have hnn : (1 : Int) ≤ (nw : Int) + 1 := by omega
  have HWL : Hid (∀ v ∈ ws, v.length ≤ 1000000) := hid (fun v hv => by
    have := words_len (l := s0.data.toList) v (by rw [HW.out]; exact List.mem_cons_of_mem _ hv)
    have h2 : s0.data.toList.length = s0.size := by show s0.data.toList.length = s0.data.size; simp
    omega)
  have hs3 : (kstr (kd op)).size ≤ 3 := by have := kstr_size ⟨kd op, kd_lt op⟩; simp only at this; split at this <;> omega
  have has : ∀ i, i < 3 → chAt (kstr (kd op)) i < 128 := fun i hi => kstr_ascii ⟨kd op, kd_lt op⟩ ⟨i, hi⟩
  have hK := fun w => kinds_ op w
  generalize kstr (kd op) = s at hs3 has hK hcand
  have HAS := hid has
  have HK := hid hK
  have HCD := hid hcand
  clear has hK hcand HOP HW
  by_cases hn0 : nw = 0
  · subst hn0
    go_upto_region 5 with (fail)
    refine wp_gen (fun V => Hid (Ext w3 V) ∧ Hid (PV V w3.heap.size (fun _ => 0))) ⟨hid (by repeat (first | (with_reducible exact Ext.refl _) | (with_reducible refine Ext.undrew ?_) | (with_reducible refine Ext.grow ?_ _) | (with_reducible refine Ext.drew ?_) | (with_reducible refine Ext.drewN ?_ _) | (with_reducible refine Ext.alloc ?_ _) | (with_reducible assumption) | ((with_reducible refine Ext.setCell ?_ ?_ _); rotate_left; (first | exact Nat.le_refl _ | ((try dsimp only); (try simp only [World.size_alloc, grow_size, World.size_setCell]); omega))))), hid (PV.new w3 _)⟩ ?_
    rintro V4 ⟨HX4, HP4⟩
    obtain ⟨pb, hpb⟩ : ∃ z, w3.heap.size = z := ⟨_, rfl⟩
    rw [hpb] at HP4 ⊢
    have hpb0 : w3.heap.size ≤ pb := Nat.le_of_eq hpb
    go_wp2_with (go_at_call 25; refine (HK.out _).mono ?_; rintro e W ⟨rfl, hxk⟩)
    have HKR : Hid (pb < W.heap.size ∧ rb < w3.heap.size ∧ w3.heap.size ≤ pb ∧ w3.heap.size ≤ W.heap.size) := hid ⟨Nat.lt_of_lt_of_le HP4.out.1 hxk.size, hrb2, hpb0, Nat.le_trans HX4.out.size hxk.size⟩
    have HXW := hid (HX4.out.trans hxk)
    have HPW := hid (HP4.out.ext hxk)
    clear HP4 HX4 hxk hpb hpb0
    go_loopw [4] (fun t wr => ∃ (i n o : Nat), i ≤ s.size ∧ t = .slice (some ⟨rb, o, none⟩) n n ∧ n ≤ 1000001 ∧ Hid ((partP valT s ws i).2.length = n) ∧ Hid (0 < n → WS wr rb o (partP valT s ws i).2) ∧ Hid (PV wr pb (partP valT s ws i).1) ∧ Hid (wr.heap[W.heap.size]? = some (.stringIter s i)) ∧ Hid (Ext w3 wr)) (fun _ wr => s.size - wr.iterPos W.heap.size)
    case atStart => exact ⟨0, 0, 0, Nat.zero_le _, rfl, by omega, HNW, hid (fun h => absurd h (Nat.lt_irrefl _)), hid (HPW.out.ext (Ext.alloc (Ext.refl W) _)), hid (World.iter_heap _ _ _), hid (HXW.out.trans (Ext.alloc (Ext.refl W) _))⟩
    case round =>
      obtain ⟨i, n, o, hi, rfl, hn9, hn, hwsr, hP, hit, hx⟩ := hrel
      by_cases hlt : i < s.size
      · have hi3 : i < 3 := by omega
        have ha := HAS.out i hi3
        have hch := chAt_get hlt
        have HI0 : (0 : Int) ≤ (i : Int) := by omega
        have HI1 : (i : Int) < 3 := by omega
        have hwt : Hid ((wr.iterAt W.heap.size s (i + 1)).heap[W.heap.size]? = some (.stringIter s (i + 1))) := hid (Lib.iterAt_heap _ _ _ _ _ hit.out)
        have hxt : Hid (Ext w3 (wr.iterAt W.heap.size s (i + 1))) := hid (Ext.turn hx.out HKR.out.2.2.2 _)
        have HOT : Hid (Only (· = W.heap.size) wr (wr.iterAt W.heap.size s (i + 1))) := hid (by rw [turn_iter]; exact Only.turn (S := (· = W.heap.size)) (Only.refl _ _) (.inl rfl) _)
        have hPt : Hid (PV (wr.iterAt W.heap.size s (i + 1)) pb (partP valT s ws i).1) := hid (hP.out.only HOT.out (fun e => by have := HKR.out; omega))
        have hnx := fun ty => Lib.run_next_ascii_at (P := Tryd.prog) wr W.heap.size s i ty hit.out hlt (by rw [hch]; exact ha)
        rw [hch] at hnx
        have HNX := hid hnx
        clear hnx
        generalize wr.iterAt W.heap.size s (i + 1) = wt at hwt hxt HOT hPt HNX
        have hkt : W.heap.size < wt.heap.size := (Array.getElem?_eq_some_iff.1 hwt.out).1
        obtain ⟨ch, hcc⟩ : ∃ z, chAt s i = z := ⟨_, rfl⟩
        have HCC := hid hcc
        rw [hcc] at HNX
        clear hch hcc
        by_cases h1 : ch = 118
        · subst h1
          have HS := hid (partP_skip (val := valT) (s := s) (ws := ws) (i := i) (.inl HCC.out))
          go_wp2
          rw [HNX.out]
          go_wp2
          go_roundw
          case rel => exact ⟨i + 1, n, o, by omega, rfl, hn9, hid (by rw [HS.out]; exact hn.out), hid (by rw [HS.out]; exact fun h => (hwsr.out h).only HOT.out (fun e => by have := HKR.out; omega)), hid (by rw [HS.out]; exact hPt.out), hwt, hxt⟩
          case measure =>
            have e1 : wr.iterPos W.heap.size = i := by simp [World.iterPos, hit.out]
            rw [e1]
            simp only [World.iterPos]
            rw [hwt.out]
            simp only
            omega
        · have hb1 : ((ch : Int) == 118) = false := by simpa using (fun e => h1 (by omega))
          by_cases h2 : ch = 45
          · subst h2
            have HS := hid (partP_skip (val := valT) (s := s) (ws := ws) (i := i) (.inr (.inl HCC.out)))
            go_wp2
            rw [HNX.out]
            go_wp2
            go_roundw
            case rel => exact ⟨i + 1, n, o, by omega, rfl, hn9, hid (by rw [HS.out]; exact hn.out), hid (by rw [HS.out]; exact fun h => (hwsr.out h).only HOT.out (fun e => by have := HKR.out; omega)), hid (by rw [HS.out]; exact hPt.out), hwt, hxt⟩
            case measure =>
              have e1 : wr.iterPos W.heap.size = i := by simp [World.iterPos, hit.out]
              rw [e1]
              simp only [World.iterPos]
              rw [hwt.out]
              simp only
              omega
          · have hb2 : ((ch : Int) == 45) = false := by simpa using (fun e => h2 (by omega))
            by_cases h3 : n = 0
            · subst h3
              have HS := hid (partP_skip (val := valT) (s := s) (ws := ws) (i := i) (.inr (.inr (List.eq_nil_of_length_eq_zero hn.out))))
              go_wp2
              rw [HNX.out]
              go_wp2
              go_roundw
              case rel => exact ⟨i + 1, 0, o, by omega, rfl, hn9, hid (by rw [HS.out]; exact hn.out), hid (by rw [HS.out]; exact fun h => (hwsr.out h).only HOT.out (fun e => by have := HKR.out; omega)), hid (by rw [HS.out]; exact hPt.out), hwt, hxt⟩
              case measure =>
                have e1 : wr.iterPos W.heap.size = i := by simp [World.iterPos, hit.out]
                rw [e1]
                simp only [World.iterPos]
                rw [hwt.out]
                simp only
                omega
            · have hb3 : ((n : Int) == 0) = false := by simpa using h3
              obtain ⟨m, rfl⟩ : ∃ m, n = m + 1 := ⟨n - 1, by omega⟩
              obtain ⟨v, r, hvr⟩ : ∃ v r, (partP valT s ws i).2 = v :: r := by
                cases hh : (partP valT s ws i).2 with
                | nil => rw [hh] at hn; exact absurd hn.out (by simp)
                | cons a b => exact ⟨a, b, rfl⟩
              have HWV : Hid (WS wt rb o (v :: r)) := hid (by have := hwsr.out (by omega); rw [hvr] at this; exact this.only HOT.out (fun e => by have := HKR.out; omega))
              have HML : Hid (r.length = m) := hid (by have := hn.out; rw [hvr, List.length_cons] at this; omega)
              have HVL : Hid ((trimR v).length ≤ 1000000) := hid (Nat.le_trans (trimR_len v) (HWL.out v (partP_mem i v (by rw [hvr]; exact List.mem_cons_self))))
              have HS := hid (partP_take (val := valT) (s := s) (ws := ws) (i := i) (by rw [HCC.out]; exact h1) (by rw [HCC.out]; exact h2) hvr)
              have c0 := HWV.out.head
              have hrl : rb < wt.heap.size := HWV.out.1
              clear hvr hn hwsr
              by_cases hm0 : m = 0
              · subst hm0
                go_wp2
                rw [HNX.out]
                go_wp2_with (first | (go_at_call 27; refine (trim_ v _).mono ?_; rintro e w4 ⟨rfl, rfl⟩) | (go_at_call 26; refine (atoi_ (trimR v) _ (HT.out.ext (HX2.out.trans hxt.out)) HVL.out).mono ?_; rintro e w5 ⟨ev, rfl, hx5⟩; have HP5 := hid (hPt.out.ext hx5.out); have q0 := (HP5.out.2 i hi3).1; have q1 := (HP5.out.2 i hi3).2; have ql := HP5.out.1))
                have HP6 := hid (HP5.out.set hi3 (valA (trimR v)))
                have HON : Hid (Only (· = pb) w5 (World.setCell w5 ⟨pb, i, none⟩ (.int .i64 (valA (trimR v))))) := hid (Only.setCell (S := (· = pb)) (Only.refl _ _) (.inl rfl) _)
                have HIT : Hid ((World.setCell w5 ⟨pb, i, none⟩ (.int .i64 (valA (trimR v)))).heap[W.heap.size]? = some (.stringIter s (i + 1))) := hid ((HON.out.block _ (Nat.lt_of_lt_of_le hkt hx5.out.size) (fun e => by have := HKR.out; omega)).trans ((hx5.out.block _ hkt).trans hwt.out))
                go_roundw
                case rel => exact ⟨i + 1, 0, o, by omega, by simp <;> omega, by omega, hid (by rw [HS.out]; exact HML.out), hid (by rw [HS.out]; exact fun h => absurd h (Nat.lt_irrefl _)), hid (by rw [HS.out]; exact HP6.out), HIT, hid (Ext.setCell (hxt.out.trans hx5.out) (by have := HKR.out; show w3.heap.size ≤ pb; omega) _)⟩
                case measure =>
                  have e1 : wr.iterPos W.heap.size = i := by simp [World.iterPos, hit.out]
                  rw [e1]
                  simp only [World.iterPos]
                  rw [HIT.out]
                  simp only
                  omega
              · have hm1 : ¬ (m : Int) + 1 = 1 := by omega
                have hm2 : (1 : Int) ≤ (m : Int) + 1 := by omega
                go_wp2
                rw [HNX.out]
                go_wp2_with (first | (go_at_call 27; refine (trim_ v _).mono ?_; rintro e w4 ⟨rfl, rfl⟩) | (go_at_call 26; refine (atoi_ (trimR v) _ (HT.out.ext (HX2.out.trans hxt.out)) HVL.out).mono ?_; rintro e w5 ⟨ev, rfl, hx5⟩; have HP5 := hid (hPt.out.ext hx5.out); have q0 := (HP5.out.2 i hi3).1; have q1 := (HP5.out.2 i hi3).2; have ql := HP5.out.1))
                have HP6 := hid (HP5.out.set hi3 (valA (trimR v)))
                have HON : Hid (Only (· = pb) w5 (World.setCell w5 ⟨pb, i, none⟩ (.int .i64 (valA (trimR v))))) := hid (Only.setCell (S := (· = pb)) (Only.refl _ _) (.inl rfl) _)
                have HIT : Hid ((World.setCell w5 ⟨pb, i, none⟩ (.int .i64 (valA (trimR v)))).heap[W.heap.size]? = some (.stringIter s (i + 1))) := hid ((HON.out.block _ (Nat.lt_of_lt_of_le hkt hx5.out.size) (fun e => by have := HKR.out; omega)).trans ((hx5.out.block _ hkt).trans hwt.out))
                go_roundw
                case rel => exact ⟨i + 1, m, o + 1, by omega, by simp <;> omega, by omega, hid (by rw [HS.out]; exact HML.out), hid (by rw [HS.out]; exact fun h => ((HWV.out.ext hx5.out).tail).only HON.out (fun e => by have := HKR.out; omega)), hid (by rw [HS.out]; exact HP6.out), HIT, hid (Ext.setCell (hxt.out.trans hx5.out) (by have := HKR.out; show w3.heap.size ≤ pb; omega) _)⟩
                case measure =>
                  have e1 : wr.iterPos W.heap.size = i := by simp [World.iterPos, hit.out]
                  rw [e1]
                  simp only [World.iterPos]
                  rw [HIT.out]
                  simp only
                  omega
      · obtain rfl : i = s.size := by omega
        have HNX := hid fun ty => Lib.run_next_end_at (P := Tryd.prog) wr W.heap.size s s.size ty hit.out (by omega)
        obtain ⟨a, hpa⟩ : ∃ z, (partP valT s ws s.size).1 0 = z := ⟨_, rfl⟩
        obtain ⟨b, hpb⟩ : ∃ z, (partP valT s ws s.size).1 1 = z := ⟨_, rfl⟩
        obtain ⟨c, hpc⟩ : ∃ z, (partP valT s ws s.size).1 2 = z := ⟨_, rfl⟩
        have hcd := HCD.out
        rw [hpa, hpb, hpc] at hcd
        have p0 := (hP.out.2 0 (by decide)).1
        have p1 := (hP.out.2 1 (by decide)).1
        have p2 := (hP.out.2 2 (by decide)).1
        have pl := hP.out.1
        rw [hpa] at p0
        rw [hpb] at p1
        rw [hpc] at p2
        have HXR := hid (HX2.out.trans hx.out)
        have HRR := hid (HR2.out.ext hx.out)
        clear hpa hpb hpc HCD
        go_wp2
        rw [HNX.out]
        go_upto_region 12 with (fail)
        refine wp_gen (fun V => Hid (Ext w V) ∧ Hid (Row V wr.heap.size 0 [.int .i64 op, .int .i64 a, .int .i64 b, .int .i64 c]) ∧ Hid (Row V rr 0 [.int .i64 0, .int .i64 0, .int .i64 0, .int .i64 0])) ⟨hid (HXR.out.trans (by repeat (first | (with_reducible exact Ext.refl _) | (with_reducible refine Ext.undrew ?_) | (with_reducible refine Ext.grow ?_ _) | (with_reducible refine Ext.drew ?_) | (with_reducible refine Ext.drewN ?_ _) | (with_reducible refine Ext.alloc ?_ _) | (with_reducible assumption) | ((with_reducible refine Ext.setCell ?_ ?_ _); rotate_left; (first | exact Nat.le_refl _ | ((try dsimp only); (try simp only [World.size_alloc, grow_size, World.size_setCell]); omega)))))), hid (Row.new wr _ _), hid (HRR.out.ext (by repeat (first | (with_reducible exact Ext.refl _) | (with_reducible refine Ext.undrew ?_) | (with_reducible refine Ext.grow ?_ _) | (with_reducible refine Ext.drew ?_) | (with_reducible refine Ext.drewN ?_ _) | (with_reducible refine Ext.alloc ?_ _) | (with_reducible assumption) | ((with_reducible refine Ext.setCell ?_ ?_ _); rotate_left; (first | exact Nat.le_refl _ | ((try dsimp only); (try simp only [World.size_alloc, grow_size, World.size_setCell]); omega))))))⟩ ?_
        clear p0 p1 p2 pl HXR HRR hn hwsr hP hit hx
        rintro V8 ⟨HX8, HN8, HR8⟩
        generalize wr.heap.size = nb at HN8 ⊢
        have n0 : World.cell? V8 ⟨nb, 0, none⟩ = some (.int .i64 op) := by have := HN8.out.at_ 0 _ rfl; simpa using this
        have n1 : World.cell? V8 ⟨nb, 1, none⟩ = some (.int .i64 a) := by have := HN8.out.at_ 1 _ rfl; simpa using this
        have n2 : World.cell? V8 ⟨nb, 2, none⟩ = some (.int .i64 b) := by have := HN8.out.at_ 2 _ rfl; simpa using this
        have n3 : World.cell? V8 ⟨nb, 3, none⟩ = some (.int .i64 c) := by have := HN8.out.at_ 3 _ rfl; simpa using this
        have nl := HN8.out.lt
        obtain ⟨tl, htl⟩ : ∃ z, textL op a b c = z := ⟨_, rfl⟩
        have HTL := hid htl
        go_upto_region 13 with (go_at_call 14; refine (text_ op a b c _ (HT.out.ext HX8.out)).mono ?_; rw [HTL.out]; rintro e w9 ⟨rfl, hx9⟩)
        have HX9 := hid (HX8.out.trans hx9)
        have HN9 := hid (HN8.out.ext hx9)
        have HR9 := hid (HR8.out.ext hx9)
        clear HX8 HN8 HR8 hx9 n0 n1 n2 n3 nl
        have n0 : World.cell? w9 ⟨nb, 0, none⟩ = some (.int .i64 op) := by have := HN9.out.at_ 0 _ rfl; simpa using this
        have n1 : World.cell? w9 ⟨nb, 1, none⟩ = some (.int .i64 a) := by have := HN9.out.at_ 1 _ rfl; simpa using this
        have n2 : World.cell? w9 ⟨nb, 2, none⟩ = some (.int .i64 b) := by have := HN9.out.at_ 2 _ rfl; simpa using this
        have n3 : World.cell? w9 ⟨nb, 3, none⟩ = some (.int .i64 c) := by have := HN9.out.at_ 3 _ rfl; simpa using this
        have nl := HN9.out.lt
        have z0 : World.cell? w9 ⟨rr, 0, none⟩ = some (.int .i64 0) := by have := HR9.out.at_ 0 _ rfl; simpa using this
        have zf0 : World.frozen? w9 ⟨rr, 0, none⟩ = false := by have := HR9.out.free 0 (by simp); simpa using this
        have z1 : World.cell? w9 ⟨rr, 1, none⟩ = some (.int .i64 0) := by have := HR9.out.at_ 1 _ rfl; simpa using this
        have zf1 : World.frozen? w9 ⟨rr, 1, none⟩ = false := by have := HR9.out.free 1 (by simp); simpa using this
        have z2 : World.cell? w9 ⟨rr, 2, none⟩ = some (.int .i64 0) := by have := HR9.out.at_ 2 _ rfl; simpa using this
        have zf2 : World.frozen? w9 ⟨rr, 2, none⟩ = false := by have := HR9.out.free 2 (by simp); simpa using this
        have z3 : World.cell? w9 ⟨rr, 3, none⟩ = some (.int .i64 0) := by have := HR9.out.at_ 3 _ rfl; simpa using this
        have zf3 : World.frozen? w9 ⟨rr, 3, none⟩ = false := by have := HR9.out.free 3 (by simp); simpa using this
        have zl := HR9.out.lt
        have hrg := Nat.le_of_eq HRG.out
        have hx9 := HX9.out
        have HTX : Hid ((⟨op, a, b, c⟩ : In).text = tl) := hid htl
        have HCD := hid hcd
        clear htl hcd HTL
        by_cases e0 : tl = []
        · have HPN : parseN valT s0.data.toList = (noIn, false) := by
            unfold parseN
            rw [HCD.out, HTX.out, if_neg]
            rintro ⟨h1, h2⟩
            exact h2 (by rw [← h1]; exact e0)
          have HPH := hid HPN
          clear HPN
          subst e0
          go_wp2
          rw [HPH.out]
          have HRW : Row (World.setCell (World.setCell (World.setCell (World.setCell w9 ⟨rr, 0, none⟩ (.int .i64 0)) ⟨rr, 1, none⟩ (.int .i64 0)) ⟨rr, 2, none⟩ (.int .i64 0)) ⟨rr, 3, none⟩ (.int .i64 0)) rr 0 [.int .i64 0, .int .i64 0, .int .i64 0, .int .i64 0] := row_atc (row_atc (row_atc (row_atc HR9.out 0 (by simp) _) 1 (by simp) _) 2 (by simp) _) 3 (by simp) _
          have r0 : World.cell? (World.setCell (World.setCell (World.setCell (World.setCell w9 ⟨rr, 0, none⟩ (.int .i64 0)) ⟨rr, 1, none⟩ (.int .i64 0)) ⟨rr, 2, none⟩ (.int .i64 0)) ⟨rr, 3, none⟩ (.int .i64 0)) ⟨rr, 0, none⟩ = some (.int .i64 0) := by have := HRW.at_ 0 _ rfl; simpa using this
          have r1 : World.cell? (World.setCell (World.setCell (World.setCell (World.setCell w9 ⟨rr, 0, none⟩ (.int .i64 0)) ⟨rr, 1, none⟩ (.int .i64 0)) ⟨rr, 2, none⟩ (.int .i64 0)) ⟨rr, 3, none⟩ (.int .i64 0)) ⟨rr, 1, none⟩ = some (.int .i64 0) := by have := HRW.at_ 1 _ rfl; simpa using this
          have r2 : World.cell? (World.setCell (World.setCell (World.setCell (World.setCell w9 ⟨rr, 0, none⟩ (.int .i64 0)) ⟨rr, 1, none⟩ (.int .i64 0)) ⟨rr, 2, none⟩ (.int .i64 0)) ⟨rr, 3, none⟩ (.int .i64 0)) ⟨rr, 2, none⟩ = some (.int .i64 0) := by have := HRW.at_ 2 _ rfl; simpa using this
          have r3 : World.cell? (World.setCell (World.setCell (World.setCell (World.setCell w9 ⟨rr, 0, none⟩ (.int .i64 0)) ⟨rr, 1, none⟩ (.int .i64 0)) ⟨rr, 2, none⟩ (.int .i64 0)) ⟨rr, 3, none⟩ (.int .i64 0)) ⟨rr, 3, none⟩ = some (.int .i64 0) := by have := HRW.at_ 3 _ rfl; simpa using this
          exact bodyPost_ret (v := .tuple #[.agg #[.int .i64 0, .int .i64 0, .int .i64 0, .int .i64 0], .bool false]) (by simp [results, Tryd.results10, go_sem, r0, r1, r2, r3]) rfl ⟨rfl, (by repeat (first | (with_reducible exact Ext.refl _) | (with_reducible refine Ext.undrew ?_) | (with_reducible refine Ext.grow ?_ _) | (with_reducible refine Ext.drew ?_) | (with_reducible refine Ext.drewN ?_ _) | (with_reducible refine Ext.alloc ?_ _) | (with_reducible assumption) | ((with_reducible refine Ext.setCell ?_ ?_ _); rotate_left; (first | exact Nat.le_refl _ | ((try dsimp only); (try simp only [World.size_alloc, grow_size, World.size_setCell]); omega)))))⟩
        · go_wp2
          · rename_i h
            have HPN : parseN valT s0.data.toList = (noIn, false) := by
              unfold parseN
              rw [HCD.out, HTX.out, if_neg]
              rintro ⟨h1, h2⟩
              rw [ByteArray.toList_eq] at h
              rcases h with h | h
              · exact e0 (by simpa using h)
              · rw [h1] at h
                simp at h
            rw [HPN]
            have HRW : Row (World.setCell (World.setCell (World.setCell (World.setCell w9 ⟨rr, 0, none⟩ (.int .i64 0)) ⟨rr, 1, none⟩ (.int .i64 0)) ⟨rr, 2, none⟩ (.int .i64 0)) ⟨rr, 3, none⟩ (.int .i64 0)) rr 0 [.int .i64 0, .int .i64 0, .int .i64 0, .int .i64 0] := row_atc (row_atc (row_atc (row_atc HR9.out 0 (by simp) _) 1 (by simp) _) 2 (by simp) _) 3 (by simp) _
            have r0 : World.cell? (World.setCell (World.setCell (World.setCell (World.setCell w9 ⟨rr, 0, none⟩ (.int .i64 0)) ⟨rr, 1, none⟩ (.int .i64 0)) ⟨rr, 2, none⟩ (.int .i64 0)) ⟨rr, 3, none⟩ (.int .i64 0)) ⟨rr, 0, none⟩ = some (.int .i64 0) := by have := HRW.at_ 0 _ rfl; simpa using this
            have r1 : World.cell? (World.setCell (World.setCell (World.setCell (World.setCell w9 ⟨rr, 0, none⟩ (.int .i64 0)) ⟨rr, 1, none⟩ (.int .i64 0)) ⟨rr, 2, none⟩ (.int .i64 0)) ⟨rr, 3, none⟩ (.int .i64 0)) ⟨rr, 1, none⟩ = some (.int .i64 0) := by have := HRW.at_ 1 _ rfl; simpa using this
            have r2 : World.cell? (World.setCell (World.setCell (World.setCell (World.setCell w9 ⟨rr, 0, none⟩ (.int .i64 0)) ⟨rr, 1, none⟩ (.int .i64 0)) ⟨rr, 2, none⟩ (.int .i64 0)) ⟨rr, 3, none⟩ (.int .i64 0)) ⟨rr, 2, none⟩ = some (.int .i64 0) := by have := HRW.at_ 2 _ rfl; simpa using this
            have r3 : World.cell? (World.setCell (World.setCell (World.setCell (World.setCell w9 ⟨rr, 0, none⟩ (.int .i64 0)) ⟨rr, 1, none⟩ (.int .i64 0)) ⟨rr, 2, none⟩ (.int .i64 0)) ⟨rr, 3, none⟩ (.int .i64 0)) ⟨rr, 3, none⟩ = some (.int .i64 0) := by have := HRW.at_ 3 _ rfl; simpa using this
            exact bodyPost_ret (v := .tuple #[.agg #[.int .i64 0, .int .i64 0, .int .i64 0, .int .i64 0], .bool false]) (by simp [results, Tryd.results10, go_sem, r0, r1, r2, r3]) rfl ⟨rfl, (by repeat (first | (with_reducible exact Ext.refl _) | (with_reducible refine Ext.undrew ?_) | (with_reducible refine Ext.grow ?_ _) | (with_reducible refine Ext.drew ?_) | (with_reducible refine Ext.drewN ?_ _) | (with_reducible refine Ext.alloc ?_ _) | (with_reducible assumption) | ((with_reducible refine Ext.setCell ?_ ?_ _); rotate_left; (first | exact Nat.le_refl _ | ((try dsimp only); (try simp only [World.size_alloc, grow_size, World.size_setCell]); omega)))))⟩
          · rename_i h
            obtain ⟨h1, h2⟩ := h
            rw [ByteArray.toList_eq] at h2
            have h3 : tl = s0.data.toList := by simpa using h2
            have HPN : parseN valT s0.data.toList = (⟨op, a, b, c⟩, true) := by
              unfold parseN
              rw [HCD.out, HTX.out, if_pos ⟨h3, by rw [← h3]; exact e0⟩]
            rw [HPN]
            have HRW : Row (World.setCell (World.setCell (World.setCell (World.setCell w9 ⟨rr, 0, none⟩ (.int .i64 op)) ⟨rr, 1, none⟩ (.int .i64 a)) ⟨rr, 2, none⟩ (.int .i64 b)) ⟨rr, 3, none⟩ (.int .i64 c)) rr 0 [.int .i64 op, .int .i64 a, .int .i64 b, .int .i64 c] := row_atc (row_atc (row_atc (row_atc HR9.out 0 (by simp) _) 1 (by simp) _) 2 (by simp) _) 3 (by simp) _
            have r0 : World.cell? (World.setCell (World.setCell (World.setCell (World.setCell w9 ⟨rr, 0, none⟩ (.int .i64 op)) ⟨rr, 1, none⟩ (.int .i64 a)) ⟨rr, 2, none⟩ (.int .i64 b)) ⟨rr, 3, none⟩ (.int .i64 c)) ⟨rr, 0, none⟩ = some (.int .i64 op) := by have := HRW.at_ 0 _ rfl; simpa using this
            have r1 : World.cell? (World.setCell (World.setCell (World.setCell (World.setCell w9 ⟨rr, 0, none⟩ (.int .i64 op)) ⟨rr, 1, none⟩ (.int .i64 a)) ⟨rr, 2, none⟩ (.int .i64 b)) ⟨rr, 3, none⟩ (.int .i64 c)) ⟨rr, 1, none⟩ = some (.int .i64 a) := by have := HRW.at_ 1 _ rfl; simpa using this
            have r2 : World.cell? (World.setCell (World.setCell (World.setCell (World.setCell w9 ⟨rr, 0, none⟩ (.int .i64 op)) ⟨rr, 1, none⟩ (.int .i64 a)) ⟨rr, 2, none⟩ (.int .i64 b)) ⟨rr, 3, none⟩ (.int .i64 c)) ⟨rr, 2, none⟩ = some (.int .i64 b) := by have := HRW.at_ 2 _ rfl; simpa using this
            have r3 : World.cell? (World.setCell (World.setCell (World.setCell (World.setCell w9 ⟨rr, 0, none⟩ (.int .i64 op)) ⟨rr, 1, none⟩ (.int .i64 a)) ⟨rr, 2, none⟩ (.int .i64 b)) ⟨rr, 3, none⟩ (.int .i64 c)) ⟨rr, 3, none⟩ = some (.int .i64 c) := by have := HRW.at_ 3 _ rfl; simpa using this
            exact bodyPost_ret (v := .tuple #[.agg #[.int .i64 op, .int .i64 a, .int .i64 b, .int .i64 c], .bool true]) (by simp [results, Tryd.results10, go_sem, r0, r1, r2, r3]) rfl ⟨rfl, (by repeat (first | (with_reducible exact Ext.refl _) | (with_reducible refine Ext.undrew ?_) | (with_reducible refine Ext.grow ?_ _) | (with_reducible refine Ext.drew ?_) | (with_reducible refine Ext.drewN ?_ _) | (with_reducible refine Ext.alloc ?_ _) | (with_reducible assumption) | ((with_reducible refine Ext.setCell ?_ ?_ _); rotate_left; (first | exact Nat.le_refl _ | ((try dsimp only); (try simp only [World.size_alloc, grow_size, World.size_setCell]); omega)))))⟩
  · have hn1 : ¬ (nw : Int) + 1 = 1 := by omega
    go_upto_region 5 with (fail)
    refine wp_gen (fun V => Hid (Ext w3 V) ∧ Hid (PV V w3.heap.size (fun _ => 0))) ⟨hid (by repeat (first | (with_reducible exact Ext.refl _) | (with_reducible refine Ext.undrew ?_) | (with_reducible refine Ext.grow ?_ _) | (with_reducible refine Ext.drew ?_) | (with_reducible refine Ext.drewN ?_ _) | (with_reducible refine Ext.alloc ?_ _) | (with_reducible assumption) | ((with_reducible refine Ext.setCell ?_ ?_ _); rotate_left; (first | exact Nat.le_refl _ | ((try dsimp only); (try simp only [World.size_alloc, grow_size, World.size_setCell]); omega))))), hid (PV.new w3 _)⟩ ?_
    rintro V4 ⟨HX4, HP4⟩
    obtain ⟨pb, hpb⟩ : ∃ z, w3.heap.size = z := ⟨_, rfl⟩
    rw [hpb] at HP4 ⊢
    have hpb0 : w3.heap.size ≤ pb := Nat.le_of_eq hpb
    go_wp2_with (go_at_call 25; refine (HK.out _).mono ?_; rintro e W ⟨rfl, hxk⟩)
    have HKR : Hid (pb < W.heap.size ∧ rb < w3.heap.size ∧ w3.heap.size ≤ pb ∧ w3.heap.size ≤ W.heap.size) := hid ⟨Nat.lt_of_lt_of_le HP4.out.1 hxk.size, hrb2, hpb0, Nat.le_trans HX4.out.size hxk.size⟩
    have HXW := hid (HX4.out.trans hxk)
    have HPW := hid (HP4.out.ext hxk)
    clear HP4 HX4 hxk hpb hpb0
    go_loopw [4] (fun t wr => ∃ (i n o : Nat), i ≤ s.size ∧ t = .slice (some ⟨rb, o, none⟩) n n ∧ n ≤ 1000001 ∧ Hid ((partP valT s ws i).2.length = n) ∧ Hid (0 < n → WS wr rb o (partP valT s ws i).2) ∧ Hid (PV wr pb (partP valT s ws i).1) ∧ Hid (wr.heap[W.heap.size]? = some (.stringIter s i)) ∧ Hid (Ext w3 wr)) (fun _ wr => s.size - wr.iterPos W.heap.size)
    case atStart => exact ⟨0, nw, 1, Nat.zero_le _, rfl, by omega, HNW, hid (fun _ => (HWT.out.ext HXW.out).ext (Ext.alloc (Ext.refl W) _)), hid (HPW.out.ext (Ext.alloc (Ext.refl W) _)), hid (World.iter_heap _ _ _), hid (HXW.out.trans (Ext.alloc (Ext.refl W) _))⟩
    case round =>
      obtain ⟨i, n, o, hi, rfl, hn9, hn, hwsr, hP, hit, hx⟩ := hrel
      by_cases hlt : i < s.size
      · have hi3 : i < 3 := by omega
        have ha := HAS.out i hi3
        have hch := chAt_get hlt
        have HI0 : (0 : Int) ≤ (i : Int) := by omega
        have HI1 : (i : Int) < 3 := by omega
        have hwt : Hid ((wr.iterAt W.heap.size s (i + 1)).heap[W.heap.size]? = some (.stringIter s (i + 1))) := hid (Lib.iterAt_heap _ _ _ _ _ hit.out)
        have hxt : Hid (Ext w3 (wr.iterAt W.heap.size s (i + 1))) := hid (Ext.turn hx.out HKR.out.2.2.2 _)
        have HOT : Hid (Only (· = W.heap.size) wr (wr.iterAt W.heap.size s (i + 1))) := hid (by rw [turn_iter]; exact Only.turn (S := (· = W.heap.size)) (Only.refl _ _) (.inl rfl) _)
        have hPt : Hid (PV (wr.iterAt W.heap.size s (i + 1)) pb (partP valT s ws i).1) := hid (hP.out.only HOT.out (fun e => by have := HKR.out; omega))
        have hnx := fun ty => Lib.run_next_ascii_at (P := Tryd.prog) wr W.heap.size s i ty hit.out hlt (by rw [hch]; exact ha)
        rw [hch] at hnx
        have HNX := hid hnx
        clear hnx
        generalize wr.iterAt W.heap.size s (i + 1) = wt at hwt hxt HOT hPt HNX
        have hkt : W.heap.size < wt.heap.size := (Array.getElem?_eq_some_iff.1 hwt.out).1
        obtain ⟨ch, hcc⟩ : ∃ z, chAt s i = z := ⟨_, rfl⟩
        have HCC := hid hcc
        rw [hcc] at HNX
        clear hch hcc
        by_cases h1 : ch = 118
        · subst h1
          have HS := hid (partP_skip (val := valT) (s := s) (ws := ws) (i := i) (.inl HCC.out))
          go_wp2
          rw [HNX.out]
          go_wp2
          go_roundw
          case rel => exact ⟨i + 1, n, o, by omega, rfl, hn9, hid (by rw [HS.out]; exact hn.out), hid (by rw [HS.out]; exact fun h => (hwsr.out h).only HOT.out (fun e => by have := HKR.out; omega)), hid (by rw [HS.out]; exact hPt.out), hwt, hxt⟩
          case measure =>
            have e1 : wr.iterPos W.heap.size = i := by simp [World.iterPos, hit.out]
            rw [e1]
            simp only [World.iterPos]
            rw [hwt.out]
            simp only
            omega
        · have hb1 : ((ch : Int) == 118) = false := by simpa using (fun e => h1 (by omega))
          by_cases h2 : ch = 45
          · subst h2
            have HS := hid (partP_skip (val := valT) (s := s) (ws := ws) (i := i) (.inr (.inl HCC.out)))
            go_wp2
            rw [HNX.out]
            go_wp2
            go_roundw
            case rel => exact ⟨i + 1, n, o, by omega, rfl, hn9, hid (by rw [HS.out]; exact hn.out), hid (by rw [HS.out]; exact fun h => (hwsr.out h).only HOT.out (fun e => by have := HKR.out; omega)), hid (by rw [HS.out]; exact hPt.out), hwt, hxt⟩
            case measure =>
              have e1 : wr.iterPos W.heap.size = i := by simp [World.iterPos, hit.out]
              rw [e1]
              simp only [World.iterPos]
              rw [hwt.out]
              simp only
              omega
          · have hb2 : ((ch : Int) == 45) = false := by simpa using (fun e => h2 (by omega))
            by_cases h3 : n = 0
            · subst h3
              have HS := hid (partP_skip (val := valT) (s := s) (ws := ws) (i := i) (.inr (.inr (List.eq_nil_of_length_eq_zero hn.out))))
              go_wp2
              rw [HNX.out]
              go_wp2
              go_roundw
              case rel => exact ⟨i + 1, 0, o, by omega, rfl, hn9, hid (by rw [HS.out]; exact hn.out), hid (by rw [HS.out]; exact fun h => (hwsr.out h).only HOT.out (fun e => by have := HKR.out; omega)), hid (by rw [HS.out]; exact hPt.out), hwt, hxt⟩
              case measure =>
                have e1 : wr.iterPos W.heap.size = i := by simp [World.iterPos, hit.out]
                rw [e1]
                simp only [World.iterPos]
                rw [hwt.out]
                simp only
                omega
            · have hb3 : ((n : Int) == 0) = false := by simpa using h3
              obtain ⟨m, rfl⟩ : ∃ m, n = m + 1 := ⟨n - 1, by omega⟩
              obtain ⟨v, r, hvr⟩ : ∃ v r, (partP valT s ws i).2 = v :: r := by
                cases hh : (partP valT s ws i).2 with
                | nil => rw [hh] at hn; exact absurd hn.out (by simp)
                | cons a b => exact ⟨a, b, rfl⟩
              have HWV : Hid (WS wt rb o (v :: r)) := hid (by have := hwsr.out (by omega); rw [hvr] at this; exact this.only HOT.out (fun e => by have := HKR.out; omega))
              have HML : Hid (r.length = m) := hid (by have := hn.out; rw [hvr, List.length_cons] at this; omega)
              have HVL : Hid ((trimR v).length ≤ 1000000) := hid (Nat.le_trans (trimR_len v) (HWL.out v (partP_mem i v (by rw [hvr]; exact List.mem_cons_self))))
              have HS := hid (partP_take (val := valT) (s := s) (ws := ws) (i := i) (by rw [HCC.out]; exact h1) (by rw [HCC.out]; exact h2) hvr)
              have c0 := HWV.out.head
              have hrl : rb < wt.heap.size := HWV.out.1
              clear hvr hn hwsr
              by_cases hm0 : m = 0
              · subst hm0
                go_wp2
                rw [HNX.out]
                go_wp2_with (first | (go_at_call 27; refine (trim_ v _).mono ?_; rintro e w4 ⟨rfl, rfl⟩) | (go_at_call 26; refine (atoi_ (trimR v) _ (HT.out.ext (HX2.out.trans hxt.out)) HVL.out).mono ?_; rintro e w5 ⟨ev, rfl, hx5⟩; have HP5 := hid (hPt.out.ext hx5.out); have q0 := (HP5.out.2 i hi3).1; have q1 := (HP5.out.2 i hi3).2; have ql := HP5.out.1))
                have HP6 := hid (HP5.out.set hi3 (valA (trimR v)))
                have HON : Hid (Only (· = pb) w5 (World.setCell w5 ⟨pb, i, none⟩ (.int .i64 (valA (trimR v))))) := hid (Only.setCell (S := (· = pb)) (Only.refl _ _) (.inl rfl) _)
                have HIT : Hid ((World.setCell w5 ⟨pb, i, none⟩ (.int .i64 (valA (trimR v)))).heap[W.heap.size]? = some (.stringIter s (i + 1))) := hid ((HON.out.block _ (Nat.lt_of_lt_of_le hkt hx5.out.size) (fun e => by have := HKR.out; omega)).trans ((hx5.out.block _ hkt).trans hwt.out))
                go_roundw
                case rel => exact ⟨i + 1, 0, o, by omega, by simp <;> omega, by omega, hid (by rw [HS.out]; exact HML.out), hid (by rw [HS.out]; exact fun h => absurd h (Nat.lt_irrefl _)), hid (by rw [HS.out]; exact HP6.out), HIT, hid (Ext.setCell (hxt.out.trans hx5.out) (by have := HKR.out; show w3.heap.size ≤ pb; omega) _)⟩
                case measure =>
                  have e1 : wr.iterPos W.heap.size = i := by simp [World.iterPos, hit.out]
                  rw [e1]
                  simp only [World.iterPos]
                  rw [HIT.out]
                  simp only
                  omega
              · have hm1 : ¬ (m : Int) + 1 = 1 := by omega
                have hm2 : (1 : Int) ≤ (m : Int) + 1 := by omega
                go_wp2
                rw [HNX.out]
                go_wp2_with (first | (go_at_call 27; refine (trim_ v _).mono ?_; rintro e w4 ⟨rfl, rfl⟩) | (go_at_call 26; refine (atoi_ (trimR v) _ (HT.out.ext (HX2.out.trans hxt.out)) HVL.out).mono ?_; rintro e w5 ⟨ev, rfl, hx5⟩; have HP5 := hid (hPt.out.ext hx5.out); have q0 := (HP5.out.2 i hi3).1; have q1 := (HP5.out.2 i hi3).2; have ql := HP5.out.1))
                have HP6 := hid (HP5.out.set hi3 (valA (trimR v)))
                have HON : Hid (Only (· = pb) w5 (World.setCell w5 ⟨pb, i, none⟩ (.int .i64 (valA (trimR v))))) := hid (Only.setCell (S := (· = pb)) (Only.refl _ _) (.inl rfl) _)
                have HIT : Hid ((World.setCell w5 ⟨pb, i, none⟩ (.int .i64 (valA (trimR v)))).heap[W.heap.size]? = some (.stringIter s (i + 1))) := hid ((HON.out.block _ (Nat.lt_of_lt_of_le hkt hx5.out.size) (fun e => by have := HKR.out; omega)).trans ((hx5.out.block _ hkt).trans hwt.out))
                go_roundw
                case rel => exact ⟨i + 1, m, o + 1, by omega, by simp <;> omega, by omega, hid (by rw [HS.out]; exact HML.out), hid (by rw [HS.out]; exact fun h => ((HWV.out.ext hx5.out).tail).only HON.out (fun e => by have := HKR.out; omega)), hid (by rw [HS.out]; exact HP6.out), HIT, hid (Ext.setCell (hxt.out.trans hx5.out) (by have := HKR.out; show w3.heap.size ≤ pb; omega) _)⟩
                case measure =>
                  have e1 : wr.iterPos W.heap.size = i := by simp [World.iterPos, hit.out]
                  rw [e1]
                  simp only [World.iterPos]
                  rw [HIT.out]
                  simp only
                  omega
      · obtain rfl : i = s.size := by omega
        have HNX := hid fun ty => Lib.run_next_end_at (P := Tryd.prog) wr W.heap.size s s.size ty hit.out (by omega)
        obtain ⟨a, hpa⟩ : ∃ z, (partP valT s ws s.size).1 0 = z := ⟨_, rfl⟩
        obtain ⟨b, hpb⟩ : ∃ z, (partP valT s ws s.size).1 1 = z := ⟨_, rfl⟩
        obtain ⟨c, hpc⟩ : ∃ z, (partP valT s ws s.size).1 2 = z := ⟨_, rfl⟩
        have hcd := HCD.out
        rw [hpa, hpb, hpc] at hcd
        have p0 := (hP.out.2 0 (by decide)).1
        have p1 := (hP.out.2 1 (by decide)).1
        have p2 := (hP.out.2 2 (by decide)).1
        have pl := hP.out.1
        rw [hpa] at p0
        rw [hpb] at p1
        rw [hpc] at p2
        have HXR := hid (HX2.out.trans hx.out)
        have HRR := hid (HR2.out.ext hx.out)
        clear hpa hpb hpc HCD
        go_wp2
        rw [HNX.out]
        go_upto_region 12 with (fail)
        refine wp_gen (fun V => Hid (Ext w V) ∧ Hid (Row V wr.heap.size 0 [.int .i64 op, .int .i64 a, .int .i64 b, .int .i64 c]) ∧ Hid (Row V rr 0 [.int .i64 0, .int .i64 0, .int .i64 0, .int .i64 0])) ⟨hid (HXR.out.trans (by repeat (first | (with_reducible exact Ext.refl _) | (with_reducible refine Ext.undrew ?_) | (with_reducible refine Ext.grow ?_ _) | (with_reducible refine Ext.drew ?_) | (with_reducible refine Ext.drewN ?_ _) | (with_reducible refine Ext.alloc ?_ _) | (with_reducible assumption) | ((with_reducible refine Ext.setCell ?_ ?_ _); rotate_left; (first | exact Nat.le_refl _ | ((try dsimp only); (try simp only [World.size_alloc, grow_size, World.size_setCell]); omega)))))), hid (Row.new wr _ _), hid (HRR.out.ext (by repeat (first | (with_reducible exact Ext.refl _) | (with_reducible refine Ext.undrew ?_) | (with_reducible refine Ext.grow ?_ _) | (with_reducible refine Ext.drew ?_) | (with_reducible refine Ext.drewN ?_ _) | (with_reducible refine Ext.alloc ?_ _) | (with_reducible assumption) | ((with_reducible refine Ext.setCell ?_ ?_ _); rotate_left; (first | exact Nat.le_refl _ | ((try dsimp only); (try simp only [World.size_alloc, grow_size, World.size_setCell]); omega))))))⟩ ?_
        clear p0 p1 p2 pl HXR HRR hn hwsr hP hit hx
        rintro V8 ⟨HX8, HN8, HR8⟩
        generalize wr.heap.size = nb at HN8 ⊢
        have n0 : World.cell? V8 ⟨nb, 0, none⟩ = some (.int .i64 op) := by have := HN8.out.at_ 0 _ rfl; simpa using this
        have n1 : World.cell? V8 ⟨nb, 1, none⟩ = some (.int .i64 a) := by have := HN8.out.at_ 1 _ rfl; simpa using this
        have n2 : World.cell? V8 ⟨nb, 2, none⟩ = some (.int .i64 b) := by have := HN8.out.at_ 2 _ rfl; simpa using this
        have n3 : World.cell? V8 ⟨nb, 3, none⟩ = some (.int .i64 c) := by have := HN8.out.at_ 3 _ rfl; simpa using this
        have nl := HN8.out.lt
        obtain ⟨tl, htl⟩ : ∃ z, textL op a b c = z := ⟨_, rfl⟩
        have HTL := hid htl
        go_upto_region 13 with (go_at_call 14; refine (text_ op a b c _ (HT.out.ext HX8.out)).mono ?_; rw [HTL.out]; rintro e w9 ⟨rfl, hx9⟩)
        have HX9 := hid (HX8.out.trans hx9)
        have HN9 := hid (HN8.out.ext hx9)
        have HR9 := hid (HR8.out.ext hx9)
        clear HX8 HN8 HR8 hx9 n0 n1 n2 n3 nl
        have n0 : World.cell? w9 ⟨nb, 0, none⟩ = some (.int .i64 op) := by have := HN9.out.at_ 0 _ rfl; simpa using this
        have n1 : World.cell? w9 ⟨nb, 1, none⟩ = some (.int .i64 a) := by have := HN9.out.at_ 1 _ rfl; simpa using this
        have n2 : World.cell? w9 ⟨nb, 2, none⟩ = some (.int .i64 b) := by have := HN9.out.at_ 2 _ rfl; simpa using this
        have n3 : World.cell? w9 ⟨nb, 3, none⟩ = some (.int .i64 c) := by have := HN9.out.at_ 3 _ rfl; simpa using this
        have nl := HN9.out.lt
        have z0 : World.cell? w9 ⟨rr, 0, none⟩ = some (.int .i64 0) := by have := HR9.out.at_ 0 _ rfl; simpa using this
        have zf0 : World.frozen? w9 ⟨rr, 0, none⟩ = false := by have := HR9.out.free 0 (by simp); simpa using this
        have z1 : World.cell? w9 ⟨rr, 1, none⟩ = some (.int .i64 0) := by have := HR9.out.at_ 1 _ rfl; simpa using this
        have zf1 : World.frozen? w9 ⟨rr, 1, none⟩ = false := by have := HR9.out.free 1 (by simp); simpa using this
        have z2 : World.cell? w9 ⟨rr, 2, none⟩ = some (.int .i64 0) := by have := HR9.out.at_ 2 _ rfl; simpa using this
        have zf2 : World.frozen? w9 ⟨rr, 2, none⟩ = false := by have := HR9.out.free 2 (by simp); simpa using this
        have z3 : World.cell? w9 ⟨rr, 3, none⟩ = some (.int .i64 0) := by have := HR9.out.at_ 3 _ rfl; simpa using this
        have zf3 : World.frozen? w9 ⟨rr, 3, none⟩ = false := by have := HR9.out.free 3 (by simp); simpa using this
        have zl := HR9.out.lt
        have hrg := Nat.le_of_eq HRG.out
        have hx9 := HX9.out
        have HTX : Hid ((⟨op, a, b, c⟩ : In).text = tl) := hid htl
        have HCD := hid hcd
        clear htl hcd HTL
        by_cases e0 : tl = []
        · have HPN : parseN valT s0.data.toList = (noIn, false) := by
            unfold parseN
            rw [HCD.out, HTX.out, if_neg]
            rintro ⟨h1, h2⟩
            exact h2 (by rw [← h1]; exact e0)
          have HPH := hid HPN
          clear HPN
          subst e0
          go_wp2
          rw [HPH.out]
          have HRW : Row (World.setCell (World.setCell (World.setCell (World.setCell w9 ⟨rr, 0, none⟩ (.int .i64 0)) ⟨rr, 1, none⟩ (.int .i64 0)) ⟨rr, 2, none⟩ (.int .i64 0)) ⟨rr, 3, none⟩ (.int .i64 0)) rr 0 [.int .i64 0, .int .i64 0, .int .i64 0, .int .i64 0] := row_atc (row_atc (row_atc (row_atc HR9.out 0 (by simp) _) 1 (by simp) _) 2 (by simp) _) 3 (by simp) _
          have r0 : World.cell? (World.setCell (World.setCell (World.setCell (World.setCell w9 ⟨rr, 0, none⟩ (.int .i64 0)) ⟨rr, 1, none⟩ (.int .i64 0)) ⟨rr, 2, none⟩ (.int .i64 0)) ⟨rr, 3, none⟩ (.int .i64 0)) ⟨rr, 0, none⟩ = some (.int .i64 0) := by have := HRW.at_ 0 _ rfl; simpa using this
          have r1 : World.cell? (World.setCell (World.setCell (World.setCell (World.setCell w9 ⟨rr, 0, none⟩ (.int .i64 0)) ⟨rr, 1, none⟩ (.int .i64 0)) ⟨rr, 2, none⟩ (.int .i64 0)) ⟨rr, 3, none⟩ (.int .i64 0)) ⟨rr, 1, none⟩ = some (.int .i64 0) := by have := HRW.at_ 1 _ rfl; simpa using this
          have r2 : World.cell? (World.setCell (World.setCell (World.setCell (World.setCell w9 ⟨rr, 0, none⟩ (.int .i64 0)) ⟨rr, 1, none⟩ (.int .i64 0)) ⟨rr, 2, none⟩ (.int .i64 0)) ⟨rr, 3, none⟩ (.int .i64 0)) ⟨rr, 2, none⟩ = some (.int .i64 0) := by have := HRW.at_ 2 _ rfl; simpa using this
          have r3 : World.cell? (World.setCell (World.setCell (World.setCell (World.setCell w9 ⟨rr, 0, none⟩ (.int .i64 0)) ⟨rr, 1, none⟩ (.int .i64 0)) ⟨rr, 2, none⟩ (.int .i64 0)) ⟨rr, 3, none⟩ (.int .i64 0)) ⟨rr, 3, none⟩ = some (.int .i64 0) := by have := HRW.at_ 3 _ rfl; simpa using this
          exact bodyPost_ret (v := .tuple #[.agg #[.int .i64 0, .int .i64 0, .int .i64 0, .int .i64 0], .bool false]) (by simp [results, Tryd.results10, go_sem, r0, r1, r2, r3]) rfl ⟨rfl, (by repeat (first | (with_reducible exact Ext.refl _) | (with_reducible refine Ext.undrew ?_) | (with_reducible refine Ext.grow ?_ _) | (with_reducible refine Ext.drew ?_) | (with_reducible refine Ext.drewN ?_ _) | (with_reducible refine Ext.alloc ?_ _) | (with_reducible assumption) | ((with_reducible refine Ext.setCell ?_ ?_ _); rotate_left; (first | exact Nat.le_refl _ | ((try dsimp only); (try simp only [World.size_alloc, grow_size, World.size_setCell]); omega)))))⟩
        · go_wp2
          · rename_i h
            have HPN : parseN valT s0.data.toList = (noIn, false) := by
              unfold parseN
              rw [HCD.out, HTX.out, if_neg]
              rintro ⟨h1, h2⟩
              rw [ByteArray.toList_eq] at h
              rcases h with h | h
              · exact e0 (by simpa using h)
              · rw [h1] at h
                simp at h
            rw [HPN]
            have HRW : Row (World.setCell (World.setCell (World.setCell (World.setCell w9 ⟨rr, 0, none⟩ (.int .i64 0)) ⟨rr, 1, none⟩ (.int .i64 0)) ⟨rr, 2, none⟩ (.int .i64 0)) ⟨rr, 3, none⟩ (.int .i64 0)) rr 0 [.int .i64 0, .int .i64 0, .int .i64 0, .int .i64 0] := row_atc (row_atc (row_atc (row_atc HR9.out 0 (by simp) _) 1 (by simp) _) 2 (by simp) _) 3 (by simp) _
            have r0 : World.cell? (World.setCell (World.setCell (World.setCell (World.setCell w9 ⟨rr, 0, none⟩ (.int .i64 0)) ⟨rr, 1, none⟩ (.int .i64 0)) ⟨rr, 2, none⟩ (.int .i64 0)) ⟨rr, 3, none⟩ (.int .i64 0)) ⟨rr, 0, none⟩ = some (.int .i64 0) := by have := HRW.at_ 0 _ rfl; simpa using this
            have r1 : World.cell? (World.setCell (World.setCell (World.setCell (World.setCell w9 ⟨rr, 0, none⟩ (.int .i64 0)) ⟨rr, 1, none⟩ (.int .i64 0)) ⟨rr, 2, none⟩ (.int .i64 0)) ⟨rr, 3, none⟩ (.int .i64 0)) ⟨rr, 1, none⟩ = some (.int .i64 0) := by have := HRW.at_ 1 _ rfl; simpa using this
            have r2 : World.cell? (World.setCell (World.setCell (World.setCell (World.setCell w9 ⟨rr, 0, none⟩ (.int .i64 0)) ⟨rr, 1, none⟩ (.int .i64 0)) ⟨rr, 2, none⟩ (.int .i64 0)) ⟨rr, 3, none⟩ (.int .i64 0)) ⟨rr, 2, none⟩ = some (.int .i64 0) := by have := HRW.at_ 2 _ rfl; simpa using this
            have r3 : World.cell? (World.setCell (World.setCell (World.setCell (World.setCell w9 ⟨rr, 0, none⟩ (.int .i64 0)) ⟨rr, 1, none⟩ (.int .i64 0)) ⟨rr, 2, none⟩ (.int .i64 0)) ⟨rr, 3, none⟩ (.int .i64 0)) ⟨rr, 3, none⟩ = some (.int .i64 0) := by have := HRW.at_ 3 _ rfl; simpa using this
            exact bodyPost_ret (v := .tuple #[.agg #[.int .i64 0, .int .i64 0, .int .i64 0, .int .i64 0], .bool false]) (by simp [results, Tryd.results10, go_sem, r0, r1, r2, r3]) rfl ⟨rfl, (by repeat (first | (with_reducible exact Ext.refl _) | (with_reducible refine Ext.undrew ?_) | (with_reducible refine Ext.grow ?_ _) | (with_reducible refine Ext.drew ?_) | (with_reducible refine Ext.drewN ?_ _) | (with_reducible refine Ext.alloc ?_ _) | (with_reducible assumption) | ((with_reducible refine Ext.setCell ?_ ?_ _); rotate_left; (first | exact Nat.le_refl _ | ((try dsimp only); (try simp only [World.size_alloc, grow_size, World.size_setCell]); omega)))))⟩
          · rename_i h
            obtain ⟨h1, h2⟩ := h
            rw [ByteArray.toList_eq] at h2
            have h3 : tl = s0.data.toList := by simpa using h2
            have HPN : parseN valT s0.data.toList = (⟨op, a, b, c⟩, true) := by
              unfold parseN
              rw [HCD.out, HTX.out, if_pos ⟨h3, by rw [← h3]; exact e0⟩]
            rw [HPN]
            have HRW : Row (World.setCell (World.setCell (World.setCell (World.setCell w9 ⟨rr, 0, none⟩ (.int .i64 op)) ⟨rr, 1, none⟩ (.int .i64 a)) ⟨rr, 2, none⟩ (.int .i64 b)) ⟨rr, 3, none⟩ (.int .i64 c)) rr 0 [.int .i64 op, .int .i64 a, .int .i64 b, .int .i64 c] := row_atc (row_atc (row_atc (row_atc HR9.out 0 (by simp) _) 1 (by simp) _) 2 (by simp) _) 3 (by simp) _
            have r0 : World.cell? (World.setCell (World.setCell (World.setCell (World.setCell w9 ⟨rr, 0, none⟩ (.int .i64 op)) ⟨rr, 1, none⟩ (.int .i64 a)) ⟨rr, 2, none⟩ (.int .i64 b)) ⟨rr, 3, none⟩ (.int .i64 c)) ⟨rr, 0, none⟩ = some (.int .i64 op) := by have := HRW.at_ 0 _ rfl; simpa using this
            have r1 : World.cell? (World.setCell (World.setCell (World.setCell (World.setCell w9 ⟨rr, 0, none⟩ (.int .i64 op)) ⟨rr, 1, none⟩ (.int .i64 a)) ⟨rr, 2, none⟩ (.int .i64 b)) ⟨rr, 3, none⟩ (.int .i64 c)) ⟨rr, 1, none⟩ = some (.int .i64 a) := by have := HRW.at_ 1 _ rfl; simpa using this
            have r2 : World.cell? (World.setCell (World.setCell (World.setCell (World.setCell w9 ⟨rr, 0, none⟩ (.int .i64 op)) ⟨rr, 1, none⟩ (.int .i64 a)) ⟨rr, 2, none⟩ (.int .i64 b)) ⟨rr, 3, none⟩ (.int .i64 c)) ⟨rr, 2, none⟩ = some (.int .i64 b) := by have := HRW.at_ 2 _ rfl; simpa using this
            have r3 : World.cell? (World.setCell (World.setCell (World.setCell (World.setCell w9 ⟨rr, 0, none⟩ (.int .i64 op)) ⟨rr, 1, none⟩ (.int .i64 a)) ⟨rr, 2, none⟩ (.int .i64 b)) ⟨rr, 3, none⟩ (.int .i64 c)) ⟨rr, 3, none⟩ = some (.int .i64 c) := by have := HRW.at_ 3 _ rfl; simpa using this
            exact bodyPost_ret (v := .tuple #[.agg #[.int .i64 op, .int .i64 a, .int .i64 b, .int .i64 c], .bool true]) (by simp [results, Tryd.results10, go_sem, r0, r1, r2, r3]) rfl ⟨rfl, (by repeat (first | (with_reducible exact Ext.refl _) | (with_reducible refine Ext.undrew ?_) | (with_reducible refine Ext.grow ?_ _) | (with_reducible refine Ext.drew ?_) | (with_reducible refine Ext.drewN ?_ _) | (with_reducible refine Ext.alloc ?_ _) | (with_reducible assumption) | ((with_reducible refine Ext.setCell ?_ ?_ _); rotate_left; (first | exact Nat.le_refl _ | ((try dsimp only); (try simp only [World.size_alloc, grow_size, World.size_setCell]); omega)))))⟩

end Go.Proofs.YtdhpbofpomefoaaDoor
