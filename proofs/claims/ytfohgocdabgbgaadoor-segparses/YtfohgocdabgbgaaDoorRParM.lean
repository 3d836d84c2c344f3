/- The document's Parse: its value's cells, plainly; laws of its blocks. -/
import Derived.Test.YtfohgocdabgbgaaDoorRSeg
import Derived.Test.YtfohgocdabgbgaaDoorSParse2
import Derived.Test.YtfohgocdabgbgaaDoorRQuant
import Derived.Test.YtfohgocdabgbgaaDoorRHuff
namespace Go.Proofs.YtfohgocdabgbgaaDoor
open Go.RowKit

/-! The document's Parse: its value's cells, plainly; laws of its blocks. -/
/-- The cells of the document's segment. -/
def dsg (z : Int) (b : ByteArray) (q h : Value) (H W : Int) (A B : Value) (f t hi lo n : Int) : Array Value :=
  #[.int .i64 z, .string b, q, h, .int .i64 H, .int .i64 W, A, B, .int .i64 f, .int .i64 t, .int .i64 hi, .int .i64 lo, .int .i64 n]
/-- Of nothing but a code. -/
def dz (z : Int) : Array Value := dsg z ⟨#[]⟩ (.slice none 0 0) (.slice none 0 0) 0 0 (.slice none 0 0) (.slice none 0 0) 0 0 0 0 0
theorem dz_one (z : Int) : (dz z).all (·.oneCell') = true := by
  unfold dz dsg
  simp
  refine ⟨rfl, rfl, rfl, rfl, rfl, rfl⟩
theorem builtS (z : Int) : Tryd.prog.built 38 [(0, .int .i64 z)] = some (dz z) := by kernel_rfl
theorem builtS0 : Tryd.prog.built 38 [] = some (dz 0) := by kernel_rfl
theorem builtSw {ops : Array Oper} {rest : List Oper} {o : Oper} {a : Act} {w : World} {Q : Exit → Act → World → Prop} (hg : o.guard = none) (x : Operand) (ho : o.op = .build 38 #[(0, x)]) (z : Int)
    (hx : a.eval x = .int .i64 z) (h : wpList Tryd.prog ops Q rest (a.put o.dst (.agg (dz z))) w) : wpList Tryd.prog ops Q (o :: rest) a w := by
  have e : Tryd.prog.built 38 ((#[(0, x)] : Array (Nat × Operand)).map fun (i, x) => (i, a.eval x)).toList = some (dz z) := by
    have := builtS z
    simp only [List.map_toArray, List.map_cons, List.map_nil, hx]
    exact this
  refine wpList_build hg 38 _ ho (by rw [e]; rfl) ?_
  rw [e]
  exact h
theorem builtS0w {ops : Array Oper} {rest : List Oper} {o : Oper} {a : Act} {w : World} {Q : Exit → Act → World → Prop} (hg : o.guard = none) (ho : o.op = .build 38 #[])
    (h : wpList Tryd.prog ops Q rest (a.put o.dst (.agg (dz 0))) w) : wpList Tryd.prog ops Q (o :: rest) a w := by
  have e : Tryd.prog.built 38 ((#[] : Array (Nat × Operand)).map fun (i, x) => (i, a.eval x)).toList = some (dz 0) := by
    have := builtS0
    simp only [List.map_toArray, List.map_nil]
    exact this
  refine wpList_build hg 38 _ ho (by rw [e]; rfl) ?_
  rw [e]
  exact h
theorem wpList_freshG {ops : Array Oper} {rest : List Oper} {o : Oper} {a : Act} {w : World} {Q : Exit → Act → World → Prop} (hgd : o.guard = none) (ty : TypeId) (x y : Operand) (ho : o.op = .store ty x y) (g : Nat) (hg : w.heap.size = g)
    (cs old : Array Value) (hx : a.eval x = .pointer (some ⟨g, 0, none⟩)) (hy : a.eval y = .agg cs) (hi : (Tryd.prog.info? ty).map (·.size) = some cs.size) (hold : old.size = cs.size) (h1 : cs.all (·.oneCell') = true)
    (h : ∀ w', w'.heap[w.heap.size]? = some (.cells cs ty (0, 0)) → Below w.heap.size w w' → wpList Tryd.prog ops Q rest (a.put o.dst undef) w') : wpList Tryd.prog ops Q (o :: rest) a (w.alloc (.cells old ty)) := by
  subst hg
  exact wpList_fresh hgd ty x y ho cs old hx hy hi hold h1 h
/-- The segment's block, the result's block. -/
structure PD (cs : Array Value) (w wr : World) : Prop where
  seg : wr.heap[w.heap.size + 1]? = some (.cells cs 38 (0, 0))
  res : ∃ Z : Array Value, Z.size = 13 ∧ wr.heap[w.heap.size]? = some (.cells Z 38 (0, 0))
  low : Below w.heap.size w wr
section
variable {cs : Array Value} {w wr : World}
theorem PD.start {Z : Array Value} {y : World} (hZ : Z.size = 13) (hy : y.heap[(w.alloc (.cells Z 38)).heap.size]? = some (.cells cs 38 (0, 0))) (hb : Below (w.alloc (.cells Z 38)).heap.size (w.alloc (.cells Z 38)) y) : PD cs w y := by
  rw [size_alloc] at hy hb
  refine ⟨hy, ⟨Z, hZ, ?_⟩, (below_new w _).trans (hb.mono (by omega))⟩
  rw [hb.block _ (by omega)]
  exact heap_alloc_new _ _
theorem PD.frame {w' : World} (h : PD cs w wr) (hb : Below wr.heap.size wr w') : PD cs w w' := by
  obtain ⟨Z, hZ, hr⟩ := h.res
  exact ⟨by rw [hb.block _ (Array.getElem?_eq_some_iff.1 h.seg).1]; exact h.seg, ⟨Z, hZ, by rw [hb.block _ (Array.getElem?_eq_some_iff.1 hr).1]; exact hr⟩, h.low.trans (hb.mono h.low.size)⟩
theorem PD.free (h : PD cs w wr) (i : Nat) : wr.frozen? ⟨w.heap.size + 1, i, none⟩ = false := frozen_of_row wr _ i _ 38 h.seg
theorem PD.get (h : PD cs w wr) (i : Nat) : wr.cell? ⟨w.heap.size + 1, i, none⟩ = cs[i]? := cell_of_row wr _ i _ 38 (0, 0) h.seg
theorem PD.set (h : PD cs w wr) {i : Nat} {v : Value} {cs' : Array Value} (he : cs.setIfInBounds i v = cs') : PD cs' w (wr.setCell ⟨w.heap.size + 1, i, none⟩ v) := by
  obtain ⟨Z, hZ, hr⟩ := h.res
  refine ⟨by rw [heap_setCell_same _ _ _ _ _ _ h.seg, he], ⟨Z, hZ, ?_⟩, h.low.setCell (p := ⟨_, _, none⟩) (Nat.le_succ _) _⟩
  rw [heap_setCell_other _ _ _ _ (by show w.heap.size ≠ w.heap.size + 1; omega)]
  exact hr
end
/-- What is stored as the result: a letter for the world behind. -/
theorem wpList_res {cs sc : Array Value} {w wr : World} (h : PD cs w wr) (hs : sc.size = 13) (h1 : sc.all (·.oneCell') = true)
    {ops : Array Oper} {rest : List Oper} {o : Oper} {a : Act} {Q : Exit → Act → World → Prop} (hgd : o.guard = none) (x y : Operand) (ho : o.op = .store 38 x y) (hx : a.eval x = .pointer (some ⟨w.heap.size, 0, none⟩)) (hy : a.eval y = .agg sc)
    (hk : ∀ w', w'.heap[w.heap.size]? = some (.cells sc 38 (0, 0)) → But w.heap.size wr w' → Below w.heap.size w w' → wpList Tryd.prog ops Q rest (a.put o.dst undef) w') : wpList Tryd.prog ops Q (o :: rest) a wr := by
  obtain ⟨Z, hZ, hr⟩ := h.res
  have hi : (Tryd.prog.info? 38).map (·.size) = some sc.size := by rw [hs]; kernel_rfl
  exact wpList_store_row hgd 38 x y ho w.heap.size _ hx hy 38 Z hr hi (hZ.trans hs.symm) h1 (hk _ (setRow_heap _ _ _ _ 38 (0, 0) hr) ⟨rfl, rfl, rfl, by rw [setRow_size]; exact Nat.le_refl _, fun j j1 _ => setRow_other _ _ _ _ j1⟩ (below_setRow h.low (Nat.le_refl _) _))
/-- A whole segment is stored over the segment. -/
theorem wpList_over {cs sc : Array Value} {w wr : World} (h : PD cs w wr) (hc : cs.size = 13) (hs : sc.size = 13) (h1 : sc.all (·.oneCell') = true)
    {ops : Array Oper} {rest : List Oper} {o : Oper} {a : Act} {Q : Exit → Act → World → Prop} (hgd : o.guard = none) (x y : Operand) (ho : o.op = .store 38 x y) (hx : a.eval x = .pointer (some ⟨w.heap.size + 1, 0, none⟩)) (hy : a.eval y = .agg sc)
    (hk : ∀ w', PD sc w w' → But (w.heap.size + 1) wr w' → wpList Tryd.prog ops Q rest (a.put o.dst undef) w') : wpList Tryd.prog ops Q (o :: rest) a wr := by
  obtain ⟨Z, hZ, hr⟩ := h.res
  have hi : (Tryd.prog.info? 38).map (·.size) = some sc.size := by rw [hs]; kernel_rfl
  refine wpList_store_row hgd 38 x y ho (w.heap.size + 1) _ hx hy 38 cs h.seg hi (hc.trans hs.symm) h1 (hk _ ⟨setRow_heap _ _ _ _ 38 (0, 0) h.seg, ⟨Z, hZ, (setRow_other _ _ _ _ (by omega)).trans hr⟩, below_setRow h.low (by omega) _⟩ ⟨rfl, rfl, rfl, by rw [setRow_size]; exact Nat.le_refl _, fun j j1 _ => setRow_other _ _ _ _ j1⟩)
/-- Plainly: where all tables are read, nothing is left. -/
theorem rlist_end {α : Type} {rd : Nat × Nat → α × (Nat × Nat)} {s : ByteArray} (had : Adv rd) : ∀ (f : Nat) (p : Nat × Nat), (p.2 = 0 → s.size - p.1 < f) → (rlist rd s f p).2.2 = 0 → s.size - (rlist rd s f p).2.1 = 0
  | 0, p, hf, h => by
    have h0 : p.2 = 0 := h
    have := hf h0
    omega
  | f + 1, p, hf, h => by
    by_cases hm : rmore s p = true
    · obtain ⟨m1, m2⟩ := rmore_yes hm
      rw [rlist_yes hm] at h ⊢
      refine rlist_end had f (rd p).2 (fun h0 => ?_) h
      have h1 := had p h0
      have h2 := hf m1
      omega
    · have hm' : rmore s p = false := by simpa using hm
      rw [rlist_no hm'] at h ⊢
      have h0 : p.2 = 0 := h
      unfold rmore at hm'
      rw [h0] at hm'
      simp at hm'
      show s.size - p.1 = 0
      omega
theorem rall_end {α : Type} {rd : Nat × Nat → α × (Nat × Nat)} {s : ByteArray} (had : Adv rd) (p : Nat × Nat) : (rneed (decide (s.size - (rall rd s p).2.1 = 0)) 4 (rall rd s p).2).2 = (rall rd s p).2.2 := by
  by_cases h : (rall rd s p).2.2 = 0
  · have e : s.size - (rall rd s p).2.1 = 0 := rlist_end had (s.size + 1) (rd p).2 (fun _ => by omega) h
    rw [decide_eq_true e, rneed_yes]
  · rw [rneed_err h]
theorem rhuff_adv' (s : ByteArray) : Adv (rhuff s) := rhuff_adv s
/-! The document's Parse: refused codes, plain segments, tables, restarts. -/
theorem dsg_one (z : Int) (b : ByteArray) (a1 b1 c1 d1 : Option Addr) (a2 a3 b2 b3 c2 c3 d2 d3 : Nat) (H W f t hi lo n : Int) : (dsg z b (.slice a1 a2 a3) (.slice b1 b2 b3) H W (.slice c1 c2 c3) (.slice d1 d2 d3) f t hi lo n).all (·.oneCell') = true := by
  unfold dsg
  simp
  refine ⟨rfl, rfl, rfl, rfl, rfl, rfl, rfl, rfl, rfl, rfl, rfl, rfl, rfl⟩
/-- What the document's Parse answers. -/
def RP (E : Nat) (Φ : Array Value → World → Prop) (w : World) (e : Ending) (w' : World) : Prop :=
  ((E = 0 ∧ ∃ cs, e = .returned (.tuple #[.agg cs, .int .i64 0]) ∧ Φ cs w') ∨ (E ≠ 0 ∧ ∃ sc : Array Value, e = .returned (.tuple #[.agg sc, .int .i64 (E : Nat)]) ∧ sc.size = 13 ∧ sc.all (·.oneCell') = true)) ∧ Below w.heap.size w w'
section
variable (s : ByteArray) (w : World)
set_option maxRecDepth 100000 in
set_option maxHeartbeats 4000000 in
theorem RP_3 (z : Int) (Φ : Array Value → World → Prop) (h : z < 192 ∨ 254 < z) : Calls Tryd.prog 12 #[.int .i64 z, .string s] w fun e w' => RP 3 Φ w e w' := by
  have HTOK := Lib.hid trivial
  rcases h with h | h
  · go_enter Tryd.func12, Tryd.ntmps12
    go_wp2_with (first
      | refine builtSw rfl _ rfl z rfl ?_
      | (have ht := HTOK.out; refine wpList_freshG rfl 38 _ _ rfl (w.heap.size + 1) (size_alloc _ _) (dz z) _ rfl rfl (size38 _ rfl) (by kernel_rfl) (dz_one _) ?_; intro y hy hby; have H1 := Lib.hid (PD.start (by kernel_rfl) hy hby); have x1 := H1.out.free 1; have x2 : y.cell? ⟨w.heap.size + 1, 1, none⟩ = some (.string ⟨#[]⟩) := H1.out.get 1; clear hy hby HTOK ht)
      | refine builtS0w rfl rfl ?_
      | (refine wpList_res H1.out rfl (dz_one _) rfl _ _ rfl rfl rfl ?_; intro wf hf hbt hb; have HFF := Lib.hid hf; have HBF := Lib.hid hb; clear hf hbt hb))
    refine bodyPost_ret_by (results_row_tmp rfl _ _ w.heap.size _ rfl (run_loadVar_row _ w.heap.size 38 38 _ (0, 0) _ HFF.out Tryd.underlying38 rfl (size38 _ rfl)) _ rfl) rfl ⟨.inr ⟨by decide, _, rfl, rfl, dz_one _⟩, HBF.out⟩
  · go_enter Tryd.func12, Tryd.ntmps12
    go_wp2_with (first
      | refine builtSw rfl _ rfl z rfl ?_
      | (have ht := HTOK.out; refine wpList_freshG rfl 38 _ _ rfl (w.heap.size + 1) (size_alloc _ _) (dz z) _ rfl rfl (size38 _ rfl) (by kernel_rfl) (dz_one _) ?_; intro y hy hby; have H1 := Lib.hid (PD.start (by kernel_rfl) hy hby); have x1 := H1.out.free 1; have x2 : y.cell? ⟨w.heap.size + 1, 1, none⟩ = some (.string ⟨#[]⟩) := H1.out.get 1; clear hy hby HTOK ht)
      | refine builtS0w rfl rfl ?_
      | (refine wpList_res H1.out rfl (dz_one _) rfl _ _ rfl rfl rfl ?_; intro wf hf hbt hb; have HFF := Lib.hid hf; have HBF := Lib.hid hb; clear hf hbt hb))
    refine bodyPost_ret_by (results_row_tmp rfl _ _ w.heap.size _ rfl (run_loadVar_row _ w.heap.size 38 38 _ (0, 0) _ HFF.out Tryd.underlying38 rfl (size38 _ rfl)) _ rfl) rfl ⟨.inr ⟨by decide, _, rfl, rfl, dz_one _⟩, HBF.out⟩
set_option maxRecDepth 100000 in
set_option maxHeartbeats 4000000 in
theorem RP_1 (z : Int) (Φ : Array Value → World → Prop) (h1 : 208 ≤ z) (h2 : z ≤ 217) : Calls Tryd.prog 12 #[.int .i64 z, .string s] w fun e w' => RP 1 Φ w e w' := by
  have HTOK := Lib.hid trivial
  have h3 : ¬ z < 192 := by omega
  have h4 : ¬ 254 < z := by omega
  go_enter Tryd.func12, Tryd.ntmps12
  go_wp2_with (first
    | refine builtSw rfl _ rfl z rfl ?_
    | (have ht := HTOK.out; refine wpList_freshG rfl 38 _ _ rfl (w.heap.size + 1) (size_alloc _ _) (dz z) _ rfl rfl (size38 _ rfl) (by kernel_rfl) (dz_one _) ?_; intro y hy hby; have H1 := Lib.hid (PD.start (by kernel_rfl) hy hby); have x1 := H1.out.free 1; have x2 : y.cell? ⟨w.heap.size + 1, 1, none⟩ = some (.string ⟨#[]⟩) := H1.out.get 1; clear hy hby HTOK ht)
    | refine builtS0w rfl rfl ?_
    | (refine wpList_res H1.out rfl (dz_one _) rfl _ _ rfl rfl rfl ?_; intro wf hf hbt hb; have HFF := Lib.hid hf; have HBF := Lib.hid hb; clear hf hbt hb))
  refine bodyPost_ret_by (results_row_tmp rfl _ _ w.heap.size _ rfl (run_loadVar_row _ w.heap.size 38 38 _ (0, 0) _ HFF.out Tryd.underlying38 rfl (size38 _ rfl)) _ rfl) rfl ⟨.inr ⟨by decide, _, rfl, rfl, dz_one _⟩, HBF.out⟩
set_option maxRecDepth 100000 in
set_option maxHeartbeats 4000000 in
theorem RP_6 (z : Int) (Φ : Array Value → World → Prop) (h : refu z = 6) : Calls Tryd.prog 12 #[.int .i64 z, .string s] w fun e w' => RP 6 Φ w e w' := by
  have HTOK := Lib.hid trivial
  have hz : (194 < z ∧ z < 208 ∧ z ≠ 196) ∨ (z = 220 ∨ z = 222 ∨ z = 223) ∨ (240 ≤ z ∧ z ≤ 253) := by
    unfold refu at h
    split at h
    · cases h
    · split at h
      · cases h
      · split at h
        · cases h
        · omega
  have b1 : 194 < z := by omega
  have b2 : (z != 196) = true := by rw [bne_iff_ne]; omega
  have b3 : (z != 218) = true := by rw [bne_iff_ne]; omega
  have b4 : (z != 219) = true := by rw [bne_iff_ne]; omega
  have b5 : (z != 221) = true := by rw [bne_iff_ne]; omega
  have b6 : (z == 254) = false := by rw [beq_eq_false_iff_ne]; omega
  have b7 : ¬ z < 192 := by omega
  have b8 : ¬ 254 < z := by omega
  clear h
  rcases hz with ⟨h1, h2, h3⟩ | h | ⟨h1, h2⟩
  · have h4 : ¬ 208 ≤ z := by omega
    have h5 : ¬ 224 ≤ z := by omega
    clear h3
    go_enter Tryd.func12, Tryd.ntmps12
    go_wp2_with (first
      | refine builtSw rfl _ rfl z rfl ?_
      | (have ht := HTOK.out; refine wpList_freshG rfl 38 _ _ rfl (w.heap.size + 1) (size_alloc _ _) (dz z) _ rfl rfl (size38 _ rfl) (by kernel_rfl) (dz_one _) ?_; intro y hy hby; have H1 := Lib.hid (PD.start (by kernel_rfl) hy hby); have x1 := H1.out.free 1; have x2 : y.cell? ⟨w.heap.size + 1, 1, none⟩ = some (.string ⟨#[]⟩) := H1.out.get 1; clear hy hby HTOK ht)
      | refine builtS0w rfl rfl ?_
      | (refine wpList_res H1.out rfl (dz_one _) rfl _ _ rfl rfl rfl ?_; intro wf hf hbt hb; have HFF := Lib.hid hf; have HBF := Lib.hid hb; clear hf hbt hb))
    refine bodyPost_ret_by (results_row_tmp rfl _ _ w.heap.size _ rfl (run_loadVar_row _ w.heap.size 38 38 _ (0, 0) _ HFF.out Tryd.underlying38 rfl (size38 _ rfl)) _ rfl) rfl ⟨.inr ⟨by decide, _, rfl, rfl, dz_one _⟩, HBF.out⟩
  · have h4 : 208 ≤ z := by omega
    have h6 : ¬ z ≤ 217 := by omega
    have h5 : ¬ 224 ≤ z := by omega
    clear h
    go_enter Tryd.func12, Tryd.ntmps12
    go_wp2_with (first
      | refine builtSw rfl _ rfl z rfl ?_
      | (have ht := HTOK.out; refine wpList_freshG rfl 38 _ _ rfl (w.heap.size + 1) (size_alloc _ _) (dz z) _ rfl rfl (size38 _ rfl) (by kernel_rfl) (dz_one _) ?_; intro y hy hby; have H1 := Lib.hid (PD.start (by kernel_rfl) hy hby); have x1 := H1.out.free 1; have x2 : y.cell? ⟨w.heap.size + 1, 1, none⟩ = some (.string ⟨#[]⟩) := H1.out.get 1; clear hy hby HTOK ht)
      | refine builtS0w rfl rfl ?_
      | (refine wpList_res H1.out rfl (dz_one _) rfl _ _ rfl rfl rfl ?_; intro wf hf hbt hb; have HFF := Lib.hid hf; have HBF := Lib.hid hb; clear hf hbt hb))
    refine bodyPost_ret_by (results_row_tmp rfl _ _ w.heap.size _ rfl (run_loadVar_row _ w.heap.size 38 38 _ (0, 0) _ HFF.out Tryd.underlying38 rfl (size38 _ rfl)) _ rfl) rfl ⟨.inr ⟨by decide, _, rfl, rfl, dz_one _⟩, HBF.out⟩
  · have h4 : 208 ≤ z := by omega
    have h6 : ¬ z ≤ 217 := by omega
    have h5 : 224 ≤ z := by omega
    have h7 : ¬ z ≤ 239 := by omega
    go_enter Tryd.func12, Tryd.ntmps12
    go_wp2_with (first
      | refine builtSw rfl _ rfl z rfl ?_
      | (have ht := HTOK.out; refine wpList_freshG rfl 38 _ _ rfl (w.heap.size + 1) (size_alloc _ _) (dz z) _ rfl rfl (size38 _ rfl) (by kernel_rfl) (dz_one _) ?_; intro y hy hby; have H1 := Lib.hid (PD.start (by kernel_rfl) hy hby); have x1 := H1.out.free 1; have x2 : y.cell? ⟨w.heap.size + 1, 1, none⟩ = some (.string ⟨#[]⟩) := H1.out.get 1; clear hy hby HTOK ht)
      | refine builtS0w rfl rfl ?_
      | (refine wpList_res H1.out rfl (dz_one _) rfl _ _ rfl rfl rfl ?_; intro wf hf hbt hb; have HFF := Lib.hid hf; have HBF := Lib.hid hb; clear hf hbt hb))
    refine bodyPost_ret_by (results_row_tmp rfl _ _ w.heap.size _ rfl (run_loadVar_row _ w.heap.size 38 38 _ (0, 0) _ HFF.out Tryd.underlying38 rfl (size38 _ rfl)) _ rfl) rfl ⟨.inr ⟨by decide, _, rfl, rfl, dz_one _⟩, HBF.out⟩
/-- Codes that are known. -/
def okz (z : Int) : Prop := z = 196 ∨ z = 218 ∨ z = 219 ∨ z = 221 ∨ z = 254 ∨ (192 ≤ z ∧ z ≤ 194) ∨ (224 ≤ z ∧ z ≤ 239)
set_option maxRecDepth 100000 in
set_option maxHeartbeats 8000000 in
theorem RP_long (z : Int) (Φ : Array Value → World → Prop) (h : okz z) (hs : 65533 < s.size) : Calls Tryd.prog 12 #[.int .i64 z, .string s] w fun e w' => RP 4 Φ w e w' := by
  have HTOK := Lib.hid trivial
  have hs' : (65533 : Int) < (s.size : Int) := by omega
  rcases h with rfl | rfl | rfl | rfl | rfl | ⟨h1, h2⟩ | ⟨h1, h2⟩
  · go_enter Tryd.func12, Tryd.ntmps12
    go_wp2_with (first
      | refine builtSw rfl _ rfl 196 rfl ?_
      | (have ht := HTOK.out; refine wpList_freshG rfl 38 _ _ rfl (w.heap.size + 1) (size_alloc _ _) (dz 196) _ rfl rfl (size38 _ rfl) (by kernel_rfl) (dz_one _) ?_; intro y hy hby; have H1 := Lib.hid (PD.start (by kernel_rfl) hy hby); have x1 := H1.out.free 1; have x2 : y.cell? ⟨w.heap.size + 1, 1, none⟩ = some (.string ⟨#[]⟩) := H1.out.get 1; clear hy hby HTOK ht)
      | refine builtS0w rfl rfl ?_
      | (refine wpList_res H1.out rfl (dz_one _) rfl _ _ rfl rfl rfl ?_; intro wf hf hbt hb; have HFF := Lib.hid hf; have HBF := Lib.hid hb; clear hf hbt hb))
    refine bodyPost_ret_by (results_row_tmp rfl _ _ w.heap.size _ rfl (run_loadVar_row _ w.heap.size 38 38 _ (0, 0) _ HFF.out Tryd.underlying38 rfl (size38 _ rfl)) _ rfl) rfl ⟨.inr ⟨by decide, _, rfl, rfl, dz_one _⟩, HBF.out⟩
  · go_enter Tryd.func12, Tryd.ntmps12
    go_wp2_with (first
      | refine builtSw rfl _ rfl 218 rfl ?_
      | (have ht := HTOK.out; refine wpList_freshG rfl 38 _ _ rfl (w.heap.size + 1) (size_alloc _ _) (dz 218) _ rfl rfl (size38 _ rfl) (by kernel_rfl) (dz_one _) ?_; intro y hy hby; have H1 := Lib.hid (PD.start (by kernel_rfl) hy hby); have x1 := H1.out.free 1; have x2 : y.cell? ⟨w.heap.size + 1, 1, none⟩ = some (.string ⟨#[]⟩) := H1.out.get 1; clear hy hby HTOK ht)
      | refine builtS0w rfl rfl ?_
      | (refine wpList_res H1.out rfl (dz_one _) rfl _ _ rfl rfl rfl ?_; intro wf hf hbt hb; have HFF := Lib.hid hf; have HBF := Lib.hid hb; clear hf hbt hb))
    refine bodyPost_ret_by (results_row_tmp rfl _ _ w.heap.size _ rfl (run_loadVar_row _ w.heap.size 38 38 _ (0, 0) _ HFF.out Tryd.underlying38 rfl (size38 _ rfl)) _ rfl) rfl ⟨.inr ⟨by decide, _, rfl, rfl, dz_one _⟩, HBF.out⟩
  · go_enter Tryd.func12, Tryd.ntmps12
    go_wp2_with (first
      | refine builtSw rfl _ rfl 219 rfl ?_
      | (have ht := HTOK.out; refine wpList_freshG rfl 38 _ _ rfl (w.heap.size + 1) (size_alloc _ _) (dz 219) _ rfl rfl (size38 _ rfl) (by kernel_rfl) (dz_one _) ?_; intro y hy hby; have H1 := Lib.hid (PD.start (by kernel_rfl) hy hby); have x1 := H1.out.free 1; have x2 : y.cell? ⟨w.heap.size + 1, 1, none⟩ = some (.string ⟨#[]⟩) := H1.out.get 1; clear hy hby HTOK ht)
      | refine builtS0w rfl rfl ?_
      | (refine wpList_res H1.out rfl (dz_one _) rfl _ _ rfl rfl rfl ?_; intro wf hf hbt hb; have HFF := Lib.hid hf; have HBF := Lib.hid hb; clear hf hbt hb))
    refine bodyPost_ret_by (results_row_tmp rfl _ _ w.heap.size _ rfl (run_loadVar_row _ w.heap.size 38 38 _ (0, 0) _ HFF.out Tryd.underlying38 rfl (size38 _ rfl)) _ rfl) rfl ⟨.inr ⟨by decide, _, rfl, rfl, dz_one _⟩, HBF.out⟩
  · go_enter Tryd.func12, Tryd.ntmps12
    go_wp2_with (first
      | refine builtSw rfl _ rfl 221 rfl ?_
      | (have ht := HTOK.out; refine wpList_freshG rfl 38 _ _ rfl (w.heap.size + 1) (size_alloc _ _) (dz 221) _ rfl rfl (size38 _ rfl) (by kernel_rfl) (dz_one _) ?_; intro y hy hby; have H1 := Lib.hid (PD.start (by kernel_rfl) hy hby); have x1 := H1.out.free 1; have x2 : y.cell? ⟨w.heap.size + 1, 1, none⟩ = some (.string ⟨#[]⟩) := H1.out.get 1; clear hy hby HTOK ht)
      | refine builtS0w rfl rfl ?_
      | (refine wpList_res H1.out rfl (dz_one _) rfl _ _ rfl rfl rfl ?_; intro wf hf hbt hb; have HFF := Lib.hid hf; have HBF := Lib.hid hb; clear hf hbt hb))
    refine bodyPost_ret_by (results_row_tmp rfl _ _ w.heap.size _ rfl (run_loadVar_row _ w.heap.size 38 38 _ (0, 0) _ HFF.out Tryd.underlying38 rfl (size38 _ rfl)) _ rfl) rfl ⟨.inr ⟨by decide, _, rfl, rfl, dz_one _⟩, HBF.out⟩
  · go_enter Tryd.func12, Tryd.ntmps12
    go_wp2_with (first
      | refine builtSw rfl _ rfl 254 rfl ?_
      | (have ht := HTOK.out; refine wpList_freshG rfl 38 _ _ rfl (w.heap.size + 1) (size_alloc _ _) (dz 254) _ rfl rfl (size38 _ rfl) (by kernel_rfl) (dz_one _) ?_; intro y hy hby; have H1 := Lib.hid (PD.start (by kernel_rfl) hy hby); have x1 := H1.out.free 1; have x2 : y.cell? ⟨w.heap.size + 1, 1, none⟩ = some (.string ⟨#[]⟩) := H1.out.get 1; clear hy hby HTOK ht)
      | refine builtS0w rfl rfl ?_
      | (refine wpList_res H1.out rfl (dz_one _) rfl _ _ rfl rfl rfl ?_; intro wf hf hbt hb; have HFF := Lib.hid hf; have HBF := Lib.hid hb; clear hf hbt hb))
    refine bodyPost_ret_by (results_row_tmp rfl _ _ w.heap.size _ rfl (run_loadVar_row _ w.heap.size 38 38 _ (0, 0) _ HFF.out Tryd.underlying38 rfl (size38 _ rfl)) _ rfl) rfl ⟨.inr ⟨by decide, _, rfl, rfl, dz_one _⟩, HBF.out⟩
  · have b1 : ¬ 194 < z := by omega
    have b7 : ¬ z < 192 := by omega
    have b8 : ¬ 254 < z := by omega
    have h4 : ¬ 208 ≤ z := by omega
    have h5 : ¬ 224 ≤ z := by omega
    have b6 : (z == 254) = false := by rw [beq_eq_false_iff_ne]; omega
    go_enter Tryd.func12, Tryd.ntmps12
    go_wp2_with (first
      | refine builtSw rfl _ rfl z rfl ?_
      | (have ht := HTOK.out; refine wpList_freshG rfl 38 _ _ rfl (w.heap.size + 1) (size_alloc _ _) (dz z) _ rfl rfl (size38 _ rfl) (by kernel_rfl) (dz_one _) ?_; intro y hy hby; have H1 := Lib.hid (PD.start (by kernel_rfl) hy hby); have x1 := H1.out.free 1; have x2 : y.cell? ⟨w.heap.size + 1, 1, none⟩ = some (.string ⟨#[]⟩) := H1.out.get 1; clear hy hby HTOK ht)
      | refine builtS0w rfl rfl ?_
      | (refine wpList_res H1.out rfl (dz_one _) rfl _ _ rfl rfl rfl ?_; intro wf hf hbt hb; have HFF := Lib.hid hf; have HBF := Lib.hid hb; clear hf hbt hb))
    refine bodyPost_ret_by (results_row_tmp rfl _ _ w.heap.size _ rfl (run_loadVar_row _ w.heap.size 38 38 _ (0, 0) _ HFF.out Tryd.underlying38 rfl (size38 _ rfl)) _ rfl) rfl ⟨.inr ⟨by decide, _, rfl, rfl, dz_one _⟩, HBF.out⟩
  · have b7 : ¬ z < 192 := by omega
    have b8 : ¬ 254 < z := by omega
    have h4 : 208 ≤ z := by omega
    have h6 : ¬ z ≤ 217 := by omega
    go_enter Tryd.func12, Tryd.ntmps12
    go_wp2_with (first
      | refine builtSw rfl _ rfl z rfl ?_
      | (have ht := HTOK.out; refine wpList_freshG rfl 38 _ _ rfl (w.heap.size + 1) (size_alloc _ _) (dz z) _ rfl rfl (size38 _ rfl) (by kernel_rfl) (dz_one _) ?_; intro y hy hby; have H1 := Lib.hid (PD.start (by kernel_rfl) hy hby); have x1 := H1.out.free 1; have x2 : y.cell? ⟨w.heap.size + 1, 1, none⟩ = some (.string ⟨#[]⟩) := H1.out.get 1; clear hy hby HTOK ht)
      | refine builtS0w rfl rfl ?_
      | (refine wpList_res H1.out rfl (dz_one _) rfl _ _ rfl rfl rfl ?_; intro wf hf hbt hb; have HFF := Lib.hid hf; have HBF := Lib.hid hb; clear hf hbt hb))
    refine bodyPost_ret_by (results_row_tmp rfl _ _ w.heap.size _ rfl (run_loadVar_row _ w.heap.size 38 38 _ (0, 0) _ HFF.out Tryd.underlying38 rfl (size38 _ rfl)) _ rfl) rfl ⟨.inr ⟨by decide, _, rfl, rfl, dz_one _⟩, HBF.out⟩
set_option maxRecDepth 100000 in
set_option maxHeartbeats 8000000 in
theorem RP_quants (hs : s.size ≤ 65533) : Calls Tryd.prog 12 #[.int .i64 219, .string s] w fun e w' => RP (rall (rquant s) s (0, 0)).2.2 (fun cs w' => ∃ v, cs = (dsg 219 ⟨#[]⟩ v (.slice none 0 0) 0 0 (.slice none 0 0) (.slice none 0 0) 0 0 0 0 0) ∧ OwnR 66 66 quantC w.heap.size v (rall (rquant s) s (0, 0)).1 w') w e w' := by
  have HTOK := Lib.hid trivial
  have hs' : ¬ (65533 : Int) < (s.size : Int) := by omega
  have HQ := Lib.hid fun x => quants_any s hs x
  generalize (rall (rquant s) s (0, 0)).1 = L at *
  generalize (rall (rquant s) s (0, 0)).2.2 = E at *
  by_cases hE : E = 0
  · subst hE
    have HY : Hid (∀ x, Calls Tryd.prog 34 #[.string s] x fun e w' => ∃ v, e = .returned (.tuple #[v, .int .i64 0]) ∧ OwnR 66 66 quantC x.heap.size v L w' ∧ Below x.heap.size x w') := fun x => (HQ.out x).mono fun e w' h => by
      rcases h.1 with ⟨_, v, h1, h2⟩ | ⟨h1, _⟩
      · exact ⟨v, h1, h2, h.2⟩
      · exact absurd rfl h1
    clear HQ
    go_enter Tryd.func12, Tryd.ntmps12
    go_wp2_with (first
      | refine builtSw rfl _ rfl 219 rfl ?_
      | (have ht := HTOK.out; refine wpList_freshG rfl 38 _ _ rfl (w.heap.size + 1) (size_alloc _ _) (dz 219) _ rfl rfl (size38 _ rfl) (by kernel_rfl) (dz_one _) ?_; intro y hy hby; have H1 := Lib.hid (PD.start (by kernel_rfl) hy hby); have x1 := H1.out.free 1; have x2 : y.cell? ⟨w.heap.size + 1, 1, none⟩ = some (.string ⟨#[]⟩) := H1.out.get 1; clear hy hby HTOK ht)
      | (go_at_call 34; refine (HY.out _).mono ?_; rintro e w4 ⟨v, rfl, ho, hb⟩; obtain ⟨p, m, c, rfl, hm⟩ := ho.shape; have h2 := H1.out.frame hb; have H3 := Lib.hid (h2.set (i := 2) (v := (.slice p m c)) (cs' := (dsg 219 ⟨#[]⟩ (.slice p m c) (.slice none 0 0) 0 0 (.slice none 0 0) (.slice none 0 0) 0 0 0 0 0)) rfl); have HO := Lib.hid ((ho.mono H1.out.low.size).setCell (i := 2) (u := (.slice p m c)) h2.seg (by decide)); have z2 : w4.cell? ⟨w.heap.size + 1, 2, none⟩ = some (.slice none 0 0) := h2.get 2; have z3 := h2.free 2; clear ho hb hm h2 HY H1)
      | refine wpList_load_row rfl 38 _ rfl (w.heap.size + 1) rfl 38 (dsg 219 ⟨#[]⟩ (.slice p m c) (.slice none 0 0) 0 0 (.slice none 0 0) (.slice none 0 0) 0 0 0 0 0) (0, 0) _ H3.out.seg Tryd.underlying38 rfl (size38 _ rfl) ?_
      | (refine wpList_res H3.out rfl (dsg_one _ _ _ _ _ _ _ _ _ _ _ _ _ _ _ _ _ _ _ _ _) rfl _ _ rfl rfl rfl ?_; intro wf hf hbt hb; have HFF := Lib.hid hf; have HBF := Lib.hid hb; obtain ⟨Z, hZ, hr⟩ := H3.out.res; have HO5 := Lib.hid (HO.out.but hr (by decide) hbt); clear hZ hr; clear hf hbt hb))
    refine bodyPost_ret_by (results_row_tmp rfl _ _ w.heap.size _ rfl (run_loadVar_row _ w.heap.size 38 38 _ (0, 0) _ HFF.out Tryd.underlying38 rfl (size38 _ rfl)) _ rfl) rfl ⟨.inl ⟨rfl, _, rfl, _, rfl, HO5.out⟩, HBF.out⟩
  · have HE := Lib.hid hE
    have HY : Hid (∀ x, Calls Tryd.prog 34 #[.string s] x fun e w' => e = .returned (.tuple #[.slice none 0 0, .int .i64 E]) ∧ Below x.heap.size x w') := fun x => (HQ.out x).mono fun e w' h => by
      rcases h.1 with ⟨h1, _⟩ | ⟨_, h1⟩
      · exact absurd h1 hE
      · exact ⟨h1, h.2⟩
    have hE' : ((E : Int) != 0) = true := by rw [bne_iff_ne]; omega
    clear HQ hE
    go_enter Tryd.func12, Tryd.ntmps12
    go_wp2_with (first
      | refine builtSw rfl _ rfl 219 rfl ?_
      | (have ht := HTOK.out; refine wpList_freshG rfl 38 _ _ rfl (w.heap.size + 1) (size_alloc _ _) (dz 219) _ rfl rfl (size38 _ rfl) (by kernel_rfl) (dz_one _) ?_; intro y hy hby; have H1 := Lib.hid (PD.start (by kernel_rfl) hy hby); have x1 := H1.out.free 1; have x2 : y.cell? ⟨w.heap.size + 1, 1, none⟩ = some (.string ⟨#[]⟩) := H1.out.get 1; clear hy hby HTOK ht)
      | (go_at_call 34; refine (HY.out _).mono ?_; rintro e w4 ⟨rfl, hb⟩; have h2 := H1.out.frame hb; have H3 := Lib.hid (h2.set (i := 2) (v := .slice none 0 0) (cs' := dz 219) rfl); have z2 : w4.cell? ⟨w.heap.size + 1, 2, none⟩ = some (.slice none 0 0) := h2.get 2; have z3 := h2.free 2; clear hb h2 HY H1)
      | refine builtS0w rfl rfl ?_
      | (refine wpList_res H3.out rfl (dz_one _) rfl _ _ rfl rfl rfl ?_; intro wf hf hbt hb; have HFF := Lib.hid hf; have HBF := Lib.hid hb; clear hf hbt hb))
    refine bodyPost_ret_by (results_row_tmp rfl _ _ w.heap.size _ rfl (run_loadVar_row _ w.heap.size 38 38 _ (0, 0) _ HFF.out Tryd.underlying38 rfl (size38 _ rfl)) _ rfl) rfl ⟨.inr ⟨HE.out, _, rfl, rfl, dz_one _⟩, HBF.out⟩
set_option maxRecDepth 100000 in
set_option maxHeartbeats 8000000 in
theorem RP_huffs (hs : s.size ≤ 65533) : Calls Tryd.prog 12 #[.int .i64 196, .string s] w fun e w' => RP (rall (rhuff s) s (0, 0)).2.2 (fun cs w' => ∃ v, cs = (dsg 196 ⟨#[]⟩ (.slice none 0 0) v 0 0 (.slice none 0 0) (.slice none 0 0) 0 0 0 0 0) ∧ OwnR 73 19 cellsH w.heap.size v (rall (rhuff s) s (0, 0)).1 w') w e w' := by
  have HTOK := Lib.hid trivial
  have hs' : ¬ (65533 : Int) < (s.size : Int) := by omega
  have HQ := Lib.hid fun x => huffs_any s hs x
  generalize (rall (rhuff s) s (0, 0)).1 = L at *
  generalize (rall (rhuff s) s (0, 0)).2.2 = E at *
  by_cases hE : E = 0
  · subst hE
    have HY : Hid (∀ x, Calls Tryd.prog 35 #[.string s] x fun e w' => ∃ v, e = .returned (.tuple #[v, .int .i64 0]) ∧ OwnR 73 19 cellsH x.heap.size v L w' ∧ Below x.heap.size x w') := fun x => (HQ.out x).mono fun e w' h => by
      rcases h.1 with ⟨_, v, h1, h2⟩ | ⟨h1, _⟩
      · exact ⟨v, h1, h2, h.2⟩
      · exact absurd rfl h1
    clear HQ
    go_enter Tryd.func12, Tryd.ntmps12
    go_wp2_with (first
      | refine builtSw rfl _ rfl 196 rfl ?_
      | (have ht := HTOK.out; refine wpList_freshG rfl 38 _ _ rfl (w.heap.size + 1) (size_alloc _ _) (dz 196) _ rfl rfl (size38 _ rfl) (by kernel_rfl) (dz_one _) ?_; intro y hy hby; have H1 := Lib.hid (PD.start (by kernel_rfl) hy hby); have x1 := H1.out.free 1; have x2 : y.cell? ⟨w.heap.size + 1, 1, none⟩ = some (.string ⟨#[]⟩) := H1.out.get 1; clear hy hby HTOK ht)
      | (go_at_call 35; refine (HY.out _).mono ?_; rintro e w4 ⟨v, rfl, ho, hb⟩; obtain ⟨p, m, c, rfl, hm⟩ := ho.shape; have h2 := H1.out.frame hb; have H3 := Lib.hid (h2.set (i := 3) (v := (.slice p m c)) (cs' := (dsg 196 ⟨#[]⟩ (.slice none 0 0) (.slice p m c) 0 0 (.slice none 0 0) (.slice none 0 0) 0 0 0 0 0)) rfl); have HO := Lib.hid ((ho.mono H1.out.low.size).setCell (i := 3) (u := (.slice p m c)) h2.seg (by decide)); have z2 : w4.cell? ⟨w.heap.size + 1, 3, none⟩ = some (.slice none 0 0) := h2.get 3; have z3 := h2.free 3; clear ho hb hm h2 HY H1)
      | refine wpList_load_row rfl 38 _ rfl (w.heap.size + 1) rfl 38 (dsg 196 ⟨#[]⟩ (.slice none 0 0) (.slice p m c) 0 0 (.slice none 0 0) (.slice none 0 0) 0 0 0 0 0) (0, 0) _ H3.out.seg Tryd.underlying38 rfl (size38 _ rfl) ?_
      | (refine wpList_res H3.out rfl (dsg_one _ _ _ _ _ _ _ _ _ _ _ _ _ _ _ _ _ _ _ _ _) rfl _ _ rfl rfl rfl ?_; intro wf hf hbt hb; have HFF := Lib.hid hf; have HBF := Lib.hid hb; obtain ⟨Z, hZ, hr⟩ := H3.out.res; have HO5 := Lib.hid (HO.out.but hr (by decide) hbt); clear hZ hr; clear hf hbt hb))
    refine bodyPost_ret_by (results_row_tmp rfl _ _ w.heap.size _ rfl (run_loadVar_row _ w.heap.size 38 38 _ (0, 0) _ HFF.out Tryd.underlying38 rfl (size38 _ rfl)) _ rfl) rfl ⟨.inl ⟨rfl, _, rfl, _, rfl, HO5.out⟩, HBF.out⟩
  · have HE := Lib.hid hE
    have HY : Hid (∀ x, Calls Tryd.prog 35 #[.string s] x fun e w' => e = .returned (.tuple #[.slice none 0 0, .int .i64 E]) ∧ Below x.heap.size x w') := fun x => (HQ.out x).mono fun e w' h => by
      rcases h.1 with ⟨h1, _⟩ | ⟨_, h1⟩
      · exact absurd h1 hE
      · exact ⟨h1, h.2⟩
    have hE' : ((E : Int) != 0) = true := by rw [bne_iff_ne]; omega
    clear HQ hE
    go_enter Tryd.func12, Tryd.ntmps12
    go_wp2_with (first
      | refine builtSw rfl _ rfl 196 rfl ?_
      | (have ht := HTOK.out; refine wpList_freshG rfl 38 _ _ rfl (w.heap.size + 1) (size_alloc _ _) (dz 196) _ rfl rfl (size38 _ rfl) (by kernel_rfl) (dz_one _) ?_; intro y hy hby; have H1 := Lib.hid (PD.start (by kernel_rfl) hy hby); have x1 := H1.out.free 1; have x2 : y.cell? ⟨w.heap.size + 1, 1, none⟩ = some (.string ⟨#[]⟩) := H1.out.get 1; clear hy hby HTOK ht)
      | (go_at_call 35; refine (HY.out _).mono ?_; rintro e w4 ⟨rfl, hb⟩; have h2 := H1.out.frame hb; have H3 := Lib.hid (h2.set (i := 3) (v := .slice none 0 0) (cs' := dz 196) rfl); have z2 : w4.cell? ⟨w.heap.size + 1, 3, none⟩ = some (.slice none 0 0) := h2.get 3; have z3 := h2.free 3; clear hb h2 HY H1)
      | refine builtS0w rfl rfl ?_
      | (refine wpList_res H3.out rfl (dz_one _) rfl _ _ rfl rfl rfl ?_; intro wf hf hbt hb; have HFF := Lib.hid hf; have HBF := Lib.hid hb; clear hf hbt hb))
    refine bodyPost_ret_by (results_row_tmp rfl _ _ w.heap.size _ rfl (run_loadVar_row _ w.heap.size 38 38 _ (0, 0) _ HFF.out Tryd.underlying38 rfl (size38 _ rfl)) _ rfl) rfl ⟨.inr ⟨HE.out, _, rfl, rfl, dz_one _⟩, HBF.out⟩
set_option maxRecDepth 100000 in
set_option maxHeartbeats 8000000 in
theorem RP_rest (hs : s.size ≤ 65533) : Calls Tryd.prog 12 #[.int .i64 221, .string s] w fun e w' => RP (if s.size = 2 then 0 else 4) (fun cs _ => cs = (dsg 221 ⟨#[]⟩ (.slice none 0 0) (.slice none 0 0) 0 0 (.slice none 0 0) (.slice none 0 0) 0 0 0 0 (rby2 s 0))) w e w' := by
  have HTOK := Lib.hid trivial
  have hs' : ¬ (65533 : Int) < (s.size : Int) := by omega
  have HY := Lib.hid fun x => (show Calls Tryd.prog 37 #[.string s, .int .i64 0] x fun e w' => e = .returned (.int .i64 (rby2 s 0)) ∧ Below x.heap.size x w' from pairAt_any s 0 (by unfold maxLen; omega) x)
  generalize rby2 s 0 = N at *
  by_cases h2 : s.size = 2
  · rw [if_pos h2]
    have b1 : ((s.size : Int) != 2) = false := by rw [bne_eq_false_iff_eq]; omega
    clear h2
    go_enter Tryd.func12, Tryd.ntmps12
    go_wp2_with (first
      | refine builtSw rfl _ rfl 221 rfl ?_
      | (have ht := HTOK.out; refine wpList_freshG rfl 38 _ _ rfl (w.heap.size + 1) (size_alloc _ _) (dz 221) _ rfl rfl (size38 _ rfl) (by kernel_rfl) (dz_one _) ?_; intro y hy hby; have H1 := Lib.hid (PD.start (by kernel_rfl) hy hby); have x1 := H1.out.free 1; have x2 : y.cell? ⟨w.heap.size + 1, 1, none⟩ = some (.string ⟨#[]⟩) := H1.out.get 1; clear hy hby HTOK ht)
      | (go_at_call 37; refine (HY.out _).mono ?_; rintro e w4 ⟨rfl, hb⟩; have h2 := H1.out.frame hb; have H3 := Lib.hid (h2.set (i := 12) (v := .int .i64 N) (cs' := (dsg 221 ⟨#[]⟩ (.slice none 0 0) (.slice none 0 0) 0 0 (.slice none 0 0) (.slice none 0 0) 0 0 0 0 N)) rfl); have z2 : w4.cell? ⟨w.heap.size + 1, 12, none⟩ = some (.int .i64 0) := h2.get 12; have z3 := h2.free 12; clear hb h2 HY H1)
      | refine wpList_load_row rfl 38 _ rfl (w.heap.size + 1) rfl 38 (dsg 221 ⟨#[]⟩ (.slice none 0 0) (.slice none 0 0) 0 0 (.slice none 0 0) (.slice none 0 0) 0 0 0 0 N) (0, 0) _ H3.out.seg Tryd.underlying38 rfl (size38 _ rfl) ?_
      | (refine wpList_res H3.out rfl (dsg_one _ _ _ _ _ _ _ _ _ _ _ _ _ _ _ _ _ _ _ _ _) rfl _ _ rfl rfl rfl ?_; intro wf hf hbt hb; have HFF := Lib.hid hf; have HBF := Lib.hid hb; clear hf hbt hb))
    refine bodyPost_ret_by (results_row_tmp rfl _ _ w.heap.size _ rfl (run_loadVar_row _ w.heap.size 38 38 _ (0, 0) _ HFF.out Tryd.underlying38 rfl (size38 _ rfl)) _ rfl) rfl ⟨.inl ⟨rfl, _, rfl, rfl⟩, HBF.out⟩
  · rw [if_neg h2]
    have b1 : ((s.size : Int) != 2) = true := by rw [bne_iff_ne]; omega
    clear h2
    go_enter Tryd.func12, Tryd.ntmps12
    go_wp2_with (first
      | refine builtSw rfl _ rfl 221 rfl ?_
      | (have ht := HTOK.out; refine wpList_freshG rfl 38 _ _ rfl (w.heap.size + 1) (size_alloc _ _) (dz 221) _ rfl rfl (size38 _ rfl) (by kernel_rfl) (dz_one _) ?_; intro y hy hby; have H1 := Lib.hid (PD.start (by kernel_rfl) hy hby); have x1 := H1.out.free 1; have x2 : y.cell? ⟨w.heap.size + 1, 1, none⟩ = some (.string ⟨#[]⟩) := H1.out.get 1; clear hy hby HTOK ht)
      | (go_at_call 37; refine (HY.out _).mono ?_; rintro e w4 ⟨rfl, hb⟩; have h2 := H1.out.frame hb; have H3 := Lib.hid (h2.set (i := 12) (v := .int .i64 N) (cs' := (dsg 221 ⟨#[]⟩ (.slice none 0 0) (.slice none 0 0) 0 0 (.slice none 0 0) (.slice none 0 0) 0 0 0 0 N)) rfl); have z2 : w4.cell? ⟨w.heap.size + 1, 12, none⟩ = some (.int .i64 0) := h2.get 12; have z3 := h2.free 12; clear hb h2 HY H1)
      | refine builtS0w rfl rfl ?_
      | (refine wpList_res H3.out rfl (dz_one _) rfl _ _ rfl rfl rfl ?_; intro wf hf hbt hb; have HFF := Lib.hid hf; have HBF := Lib.hid hb; clear hf hbt hb))
    refine bodyPost_ret_by (results_row_tmp rfl _ _ w.heap.size _ rfl (run_loadVar_row _ w.heap.size 38 38 _ (0, 0) _ HFF.out Tryd.underlying38 rfl (size38 _ rfl)) _ rfl) rfl ⟨.inr ⟨by decide, _, rfl, rfl, dz_one _⟩, HBF.out⟩
end
/-! The document's Parse: plain segments. -/
section
variable (s : ByteArray) (w : World)
set_option maxRecDepth 100000 in
set_option maxHeartbeats 8000000 in
theorem RP_plain (z : Int) (h : (224 ≤ z ∧ z ≤ 239) ∨ z = 254) (hs : s.size ≤ 65533) : Calls Tryd.prog 12 #[.int .i64 z, .string s] w fun e w' => RP 0 (fun cs _ => cs = (dsg z s (.slice none 0 0) (.slice none 0 0) 0 0 (.slice none 0 0) (.slice none 0 0) 0 0 0 0 0)) w e w' := by
  have HTOK := Lib.hid trivial
  have hs' : ¬ (65533 : Int) < (s.size : Int) := by omega
  have HP2 : Hid (∀ y, PD (dz z) w y → PD (dsg z s (.slice none 0 0) (.slice none 0 0) 0 0 (.slice none 0 0) (.slice none 0 0) 0 0 0 0 0) w (y.setCell ⟨w.heap.size + 1, 1, none⟩ (.string s))) := fun y hy => hy.set rfl
  rcases h with ⟨h1, h2⟩ | h
  · have b7 : ¬ z < 192 := by omega
    have b8 : ¬ 254 < z := by omega
    have h4 : 208 ≤ z := by omega
    have h6 : ¬ z ≤ 217 := by omega
    go_enter Tryd.func12, Tryd.ntmps12
    go_wp2_with (first
      | refine builtSw rfl _ rfl z rfl ?_
      | (have ht := HTOK.out; refine wpList_freshG rfl 38 _ _ rfl (w.heap.size + 1) (size_alloc _ _) (dz z) _ rfl rfl (size38 _ rfl) (by kernel_rfl) (dz_one _) ?_; intro y hy hby; have H1 := Lib.hid (PD.start (by kernel_rfl) hy hby); have x1 := H1.out.free 1; have x2 : y.cell? ⟨w.heap.size + 1, 1, none⟩ = some (.string ⟨#[]⟩) := H1.out.get 1; clear hy hby HTOK ht)
      | refine wpList_load_row rfl 38 _ rfl (w.heap.size + 1) rfl 38 (dsg z s (.slice none 0 0) (.slice none 0 0) 0 0 (.slice none 0 0) (.slice none 0 0) 0 0 0 0 0) (0, 0) _ (HP2.out _ H1.out).seg Tryd.underlying38 rfl (size38 _ rfl) ?_
      | (refine wpList_res (HP2.out _ H1.out) rfl (dsg_one _ _ _ _ _ _ _ _ _ _ _ _ _ _ _ _ _ _ _ _ _) rfl _ _ rfl rfl rfl ?_; intro wf hf hbt hb; have HFF := Lib.hid hf; have HBF := Lib.hid hb; clear hf hbt hb))
    refine bodyPost_ret_by (results_row_tmp rfl _ _ w.heap.size _ rfl (run_loadVar_row _ w.heap.size 38 38 _ (0, 0) _ HFF.out Tryd.underlying38 rfl (size38 _ rfl)) _ rfl) rfl ⟨.inl ⟨rfl, _, rfl, rfl⟩, HBF.out⟩
  · subst h
    go_enter Tryd.func12, Tryd.ntmps12
    go_wp2_with (first
      | refine builtSw rfl _ rfl 254 rfl ?_
      | (have ht := HTOK.out; refine wpList_freshG rfl 38 _ _ rfl (w.heap.size + 1) (size_alloc _ _) (dz 254) _ rfl rfl (size38 _ rfl) (by kernel_rfl) (dz_one _) ?_; intro y hy hby; have H1 := Lib.hid (PD.start (by kernel_rfl) hy hby); have x1 := H1.out.free 1; have x2 : y.cell? ⟨w.heap.size + 1, 1, none⟩ = some (.string ⟨#[]⟩) := H1.out.get 1; clear hy hby HTOK ht)
      | refine wpList_load_row rfl 38 _ rfl (w.heap.size + 1) rfl 38 (dsg 254 s (.slice none 0 0) (.slice none 0 0) 0 0 (.slice none 0 0) (.slice none 0 0) 0 0 0 0 0) (0, 0) _ (HP2.out _ H1.out).seg Tryd.underlying38 rfl (size38 _ rfl) ?_
      | (refine wpList_res (HP2.out _ H1.out) rfl (dsg_one _ _ _ _ _ _ _ _ _ _ _ _ _ _ _ _ _ _ _ _ _) rfl _ _ rfl rfl rfl ?_; intro wf hf hbt hb; have HFF := Lib.hid hf; have HBF := Lib.hid hb; clear hf hbt hb))
    refine bodyPost_ret_by (results_row_tmp rfl _ _ w.heap.size _ rfl (run_loadVar_row _ w.heap.size 38 38 _ (0, 0) _ HFF.out Tryd.underlying38 rfl (size38 _ rfl)) _ rfl) rfl ⟨.inl ⟨rfl, _, rfl, rfl⟩, HBF.out⟩
end
end Go.Proofs.YtfohgocdabgbgaaDoor
