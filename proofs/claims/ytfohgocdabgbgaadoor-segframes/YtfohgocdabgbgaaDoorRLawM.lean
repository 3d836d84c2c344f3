/- The document's Parse: its value's cells, plainly; laws of its blocks. -/
import Derived.Test.YtfohgocdabgbgaaDoorRSeg
import Derived.Test.YtfohgocdabgbgaaDoorSParse2
import Derived.Test.YtfohgocdabgbgaaDoorRQuantM
import Derived.Test.YtfohgocdabgbgaaDoorRHuff
import Derived.Test.YtfohgocdabgbgaaDoorRScan
import Derived.Test.YtfohgocdabgbgaaDoorRFrameM
import Derived.Test.YtfohgocdabgbgaaDoorRPl
import Derived.Deep.WholeRow
import Derived.Test.YtfohgocdabgbgaaDoorSAsrt
import Derived.Test.YtfohgocdabgbgaaDoorMEq
import Derived.Test.YtfohgocdabgbgaaDoorSHuffs
import Derived.Test.YtfohgocdabgbgaaDoorSHuff2
import Derived.Test.YtfohgocdabgbgaaDoorSRest
namespace Go.Proofs.YtfohgocdabgbgaaDoor
open Go.RowKit

/-! The document's Parse: its value's cells, plainly; laws of its blocks. -/
/-! The document's Parse: its value's cells, plainly; laws of its blocks. -/
/-- The cells of the document's segment. -/
def dsg (z : Int) (b : ByteArray) (q h : Value) (H W : Int) (A B : Value) (f t hi lo n : Int) : Array Value :=
  #[.int .i64 z, .string b, q, h, .int .i64 H, .int .i64 W, A, B, .int .i64 f, .int .i64 t, .int .i64 hi, .int .i64 lo, .int .i64 n]
/-- Of nothing but a code. -/
def dz (z : Int) : Array Value := dsg z ⟨#[]⟩ (.slice none 0 0) (.slice none 0 0) 0 0 (.slice none 0 0) (.slice none 0 0) 0 0 0 0 0
theorem dz_one (z : Int) : (dz z).all (·.oneCell') = true := by
  unfold dz dsg
  simp
  refine ⟨rfl, rfl, rfl, rfl, rfl, rfl⟩
theorem builtS (z : Int) : Tryd.prog.built 38 [(0, .int .i64 z)] = some (dz z) := by kernel_rfl
theorem builtS0 : Tryd.prog.built 38 [] = some (dz 0) := by kernel_rfl
theorem builtSw {ops : Array Oper} {rest : List Oper} {o : Oper} {a : Act} {w : World} {Q : Exit → Act → World → Prop} (hg : o.guard = none) (x : Operand) (ho : o.op = .build 38 #[(0, x)]) (z : Int)
    (hx : a.eval x = .int .i64 z) (h : wpList Tryd.prog ops Q rest (a.put o.dst (.agg (dz z))) w) : wpList Tryd.prog ops Q (o :: rest) a w := by
  have e : Tryd.prog.built 38 ((#[(0, x)] : Array (Nat × Operand)).map fun (i, x) => (i, a.eval x)).toList = some (dz z) := by
    have := builtS z
    simp only [List.map_toArray, List.map_cons, List.map_nil, hx]
    exact this
  refine wpList_build hg 38 _ ho (by rw [e]; rfl) ?_
  rw [e]
  exact h
theorem builtS0w {ops : Array Oper} {rest : List Oper} {o : Oper} {a : Act} {w : World} {Q : Exit → Act → World → Prop} (hg : o.guard = none) (ho : o.op = .build 38 #[])
    (h : wpList Tryd.prog ops Q rest (a.put o.dst (.agg (dz 0))) w) : wpList Tryd.prog ops Q (o :: rest) a w := by
  have e : Tryd.prog.built 38 ((#[] : Array (Nat × Operand)).map fun (i, x) => (i, a.eval x)).toList = some (dz 0) := by
    have := builtS0
    simp only [List.map_toArray, List.map_nil]
    exact this
  refine wpList_build hg 38 _ ho (by rw [e]; rfl) ?_
  rw [e]
  exact h
theorem wpList_freshG {ops : Array Oper} {rest : List Oper} {o : Oper} {a : Act} {w : World} {Q : Exit → Act → World → Prop} (hgd : o.guard = none) (ty : TypeId) (x y : Operand) (ho : o.op = .store ty x y) (g : Nat) (hg : w.heap.size = g)
    (cs old : Array Value) (hx : a.eval x = .pointer (some ⟨g, 0, none⟩)) (hy : a.eval y = .agg cs) (hi : (Tryd.prog.info? ty).map (·.size) = some cs.size) (hold : old.size = cs.size) (h1 : cs.all (·.oneCell') = true)
    (h : ∀ w', w'.heap[w.heap.size]? = some (.cells cs ty (0, 0)) → Below w.heap.size w w' → wpList Tryd.prog ops Q rest (a.put o.dst undef) w') : wpList Tryd.prog ops Q (o :: rest) a (w.alloc (.cells old ty)) := by
  subst hg
  exact wpList_fresh hgd ty x y ho cs old hx hy hi hold h1 h
/-- The segment's block, the result's block. -/
structure PD (cs : Array Value) (w wr : World) : Prop where
  seg : wr.heap[w.heap.size + 1]? = some (.cells cs 38 (0, 0))
  res : ∃ Z : Array Value, Z.size = 13 ∧ wr.heap[w.heap.size]? = some (.cells Z 38 (0, 0))
  low : Below w.heap.size w wr
section
variable {cs : Array Value} {w wr : World}
theorem PD.start {Z : Array Value} {y : World} (hZ : Z.size = 13) (hy : y.heap[(w.alloc (.cells Z 38)).heap.size]? = some (.cells cs 38 (0, 0))) (hb : Below (w.alloc (.cells Z 38)).heap.size (w.alloc (.cells Z 38)) y) : PD cs w y := by
  rw [size_alloc] at hy hb
  refine ⟨hy, ⟨Z, hZ, ?_⟩, (below_new w _).trans (hb.mono (by omega))⟩
  rw [hb.block _ (by omega)]
  exact heap_alloc_new _ _
theorem PD.frame {w' : World} (h : PD cs w wr) (hb : Below wr.heap.size wr w') : PD cs w w' := by
  obtain ⟨Z, hZ, hr⟩ := h.res
  exact ⟨by rw [hb.block _ (Array.getElem?_eq_some_iff.1 h.seg).1]; exact h.seg, ⟨Z, hZ, by rw [hb.block _ (Array.getElem?_eq_some_iff.1 hr).1]; exact hr⟩, h.low.trans (hb.mono h.low.size)⟩
theorem PD.free (h : PD cs w wr) (i : Nat) : wr.frozen? ⟨w.heap.size + 1, i, none⟩ = false := frozen_of_row wr _ i _ 38 h.seg
theorem PD.get (h : PD cs w wr) (i : Nat) : wr.cell? ⟨w.heap.size + 1, i, none⟩ = cs[i]? := cell_of_row wr _ i _ 38 (0, 0) h.seg
theorem PD.set (h : PD cs w wr) {i : Nat} {v : Value} {cs' : Array Value} (he : cs.setIfInBounds i v = cs') : PD cs' w (wr.setCell ⟨w.heap.size + 1, i, none⟩ v) := by
  obtain ⟨Z, hZ, hr⟩ := h.res
  refine ⟨by rw [heap_setCell_same _ _ _ _ _ _ h.seg, he], ⟨Z, hZ, ?_⟩, h.low.setCell (p := ⟨_, _, none⟩) (Nat.le_succ _) _⟩
  rw [heap_setCell_other _ _ _ _ (by show w.heap.size ≠ w.heap.size + 1; omega)]
  exact hr
end
/-- What is stored as the result: a letter for the world behind. -/
theorem wpList_res {cs sc : Array Value} {w wr : World} (h : PD cs w wr) (hs : sc.size = 13) (h1 : sc.all (·.oneCell') = true)
    {ops : Array Oper} {rest : List Oper} {o : Oper} {a : Act} {Q : Exit → Act → World → Prop} (hgd : o.guard = none) (x y : Operand) (ho : o.op = .store 38 x y) (hx : a.eval x = .pointer (some ⟨w.heap.size, 0, none⟩)) (hy : a.eval y = .agg sc)
    (hk : ∀ w', w'.heap[w.heap.size]? = some (.cells sc 38 (0, 0)) → But w.heap.size wr w' → Below w.heap.size w w' → wpList Tryd.prog ops Q rest (a.put o.dst undef) w') : wpList Tryd.prog ops Q (o :: rest) a wr := by
  obtain ⟨Z, hZ, hr⟩ := h.res
  have hi : (Tryd.prog.info? 38).map (·.size) = some sc.size := by rw [hs]; kernel_rfl
  exact wpList_store_row hgd 38 x y ho w.heap.size _ hx hy 38 Z hr hi (hZ.trans hs.symm) h1 (hk _ (setRow_heap _ _ _ _ 38 (0, 0) hr) ⟨rfl, rfl, rfl, by rw [setRow_size]; exact Nat.le_refl _, fun j j1 _ => setRow_other _ _ _ _ j1⟩ (below_setRow h.low (Nat.le_refl _) _))
/-- A whole segment is stored over the segment. -/
theorem wpList_over {cs sc : Array Value} {w wr : World} (h : PD cs w wr) (hc : cs.size = 13) (hs : sc.size = 13) (h1 : sc.all (·.oneCell') = true)
    {ops : Array Oper} {rest : List Oper} {o : Oper} {a : Act} {Q : Exit → Act → World → Prop} (hgd : o.guard = none) (x y : Operand) (ho : o.op = .store 38 x y) (hx : a.eval x = .pointer (some ⟨w.heap.size + 1, 0, none⟩)) (hy : a.eval y = .agg sc)
    (hk : ∀ w', PD sc w w' → But (w.heap.size + 1) wr w' → wpList Tryd.prog ops Q rest (a.put o.dst undef) w') : wpList Tryd.prog ops Q (o :: rest) a wr := by
  obtain ⟨Z, hZ, hr⟩ := h.res
  have hi : (Tryd.prog.info? 38).map (·.size) = some sc.size := by rw [hs]; kernel_rfl
  refine wpList_store_row hgd 38 x y ho (w.heap.size + 1) _ hx hy 38 cs h.seg hi (hc.trans hs.symm) h1 (hk _ ⟨setRow_heap _ _ _ _ 38 (0, 0) h.seg, ⟨Z, hZ, (setRow_other _ _ _ _ (by omega)).trans hr⟩, below_setRow h.low (by omega) _⟩ ⟨rfl, rfl, rfl, by rw [setRow_size]; exact Nat.le_refl _, fun j j1 _ => setRow_other _ _ _ _ j1⟩)
/-- Plainly: where all tables are read, nothing is left. -/
theorem rlist_end {α : Type} {rd : Nat × Nat → α × (Nat × Nat)} {s : ByteArray} (had : Adv rd) : ∀ (f : Nat) (p : Nat × Nat), (p.2 = 0 → s.size - p.1 < f) → (rlist rd s f p).2.2 = 0 → s.size - (rlist rd s f p).2.1 = 0
  | 0, p, hf, h => by
    have h0 : p.2 = 0 := h
    have := hf h0
    omega
  | f + 1, p, hf, h => by
    by_cases hm : rmore s p = true
    · obtain ⟨m1, m2⟩ := rmore_yes hm
      rw [rlist_yes hm] at h ⊢
      refine rlist_end had f (rd p).2 (fun h0 => ?_) h
      have h1 := had p h0
      have h2 := hf m1
      omega
    · have hm' : rmore s p = false := by simpa using hm
      rw [rlist_no hm'] at h ⊢
      have h0 : p.2 = 0 := h
      unfold rmore at hm'
      rw [h0] at hm'
      simp at hm'
      show s.size - p.1 = 0
      omega
theorem rall_end {α : Type} {rd : Nat × Nat → α × (Nat × Nat)} {s : ByteArray} (had : Adv rd) (p : Nat × Nat) : (rneed (decide (s.size - (rall rd s p).2.1 = 0)) 4 (rall rd s p).2).2 = (rall rd s p).2.2 := by
  by_cases h : (rall rd s p).2.2 = 0
  · have e : s.size - (rall rd s p).2.1 = 0 := rlist_end had (s.size + 1) (rd p).2 (fun _ => by omega) h
    rw [decide_eq_true e, rneed_yes]
  · rw [rneed_err h]
theorem rhuff_adv' (s : ByteArray) : Adv (rhuff s) := rhuff_adv s
/-! The document's Parse: refused codes, plain segments, tables, restarts. -/
theorem dsg_one (z : Int) (b : ByteArray) (a1 b1 c1 d1 : Option Addr) (a2 a3 b2 b3 c2 c3 d2 d3 : Nat) (H W f t hi lo n : Int) : (dsg z b (.slice a1 a2 a3) (.slice b1 b2 b3) H W (.slice c1 c2 c3) (.slice d1 d2 d3) f t hi lo n).all (·.oneCell') = true := by
  unfold dsg
  simp
  refine ⟨rfl, rfl, rfl, rfl, rfl, rfl, rfl, rfl, rfl, rfl, rfl, rfl, rfl⟩
/-- What the document's Parse answers. -/
def RP (E : Nat) (Φ : Array Value → World → Prop) (w : World) (e : Ending) (w' : World) : Prop :=
  ((E = 0 ∧ ∃ cs, e = .returned (.tuple #[.agg cs, .int .i64 0]) ∧ Φ cs w') ∨ (E ≠ 0 ∧ ∃ sc : Array Value, e = .returned (.tuple #[.agg sc, .int .i64 (E : Nat)]) ∧ sc.size = 13 ∧ sc.all (·.oneCell') = true)) ∧ Below w.heap.size w w'
section
variable (s : ByteArray) (w : World)
set_option maxRecDepth 100000 in
set_option maxHeartbeats 4000000 in
theorem RP_3 (z : Int) (Φ : Array Value → World → Prop) (h : z < 192 ∨ 254 < z) : Calls Tryd.prog 12 #[.int .i64 z, .string s] w fun e w' => RP 3 Φ w e w' := by
  have HTOK := Lib.hid trivial
  rcases h with h | h
  · go_enter Tryd.func12, Tryd.ntmps12
    go_wp2_with (first
      | refine builtSw rfl _ rfl z rfl ?_
      | (have ht := HTOK.out; refine wpList_freshG rfl 38 _ _ rfl (w.heap.size + 1) (size_alloc _ _) (dz z) _ rfl rfl (size38 _ rfl) (by kernel_rfl) (dz_one _) ?_; intro y hy hby; have H1 := Lib.hid (PD.start (by kernel_rfl) hy hby); have x1 := H1.out.free 1; have x2 : y.cell? ⟨w.heap.size + 1, 1, none⟩ = some (.string ⟨#[]⟩) := H1.out.get 1; clear hy hby HTOK ht)
      | refine builtS0w rfl rfl ?_
      | (refine wpList_res H1.out rfl (dz_one _) rfl _ _ rfl rfl rfl ?_; intro wf hf hbt hb; have HFF := Lib.hid hf; have HBF := Lib.hid hb; clear hf hbt hb))
    refine bodyPost_ret_by (results_row_tmp rfl _ _ w.heap.size _ rfl (run_loadVar_row _ w.heap.size 38 38 _ (0, 0) _ HFF.out Tryd.underlying38 rfl (size38 _ rfl)) _ rfl) rfl ⟨.inr ⟨by decide, _, rfl, rfl, dz_one _⟩, HBF.out⟩
  · go_enter Tryd.func12, Tryd.ntmps12
    go_wp2_with (first
      | refine builtSw rfl _ rfl z rfl ?_
      | (have ht := HTOK.out; refine wpList_freshG rfl 38 _ _ rfl (w.heap.size + 1) (size_alloc _ _) (dz z) _ rfl rfl (size38 _ rfl) (by kernel_rfl) (dz_one _) ?_; intro y hy hby; have H1 := Lib.hid (PD.start (by kernel_rfl) hy hby); have x1 := H1.out.free 1; have x2 : y.cell? ⟨w.heap.size + 1, 1, none⟩ = some (.string ⟨#[]⟩) := H1.out.get 1; clear hy hby HTOK ht)
      | refine builtS0w rfl rfl ?_
      | (refine wpList_res H1.out rfl (dz_one _) rfl _ _ rfl rfl rfl ?_; intro wf hf hbt hb; have HFF := Lib.hid hf; have HBF := Lib.hid hb; clear hf hbt hb))
    refine bodyPost_ret_by (results_row_tmp rfl _ _ w.heap.size _ rfl (run_loadVar_row _ w.heap.size 38 38 _ (0, 0) _ HFF.out Tryd.underlying38 rfl (size38 _ rfl)) _ rfl) rfl ⟨.inr ⟨by decide, _, rfl, rfl, dz_one _⟩, HBF.out⟩
set_option maxRecDepth 100000 in
set_option maxHeartbeats 4000000 in
theorem RP_1 (z : Int) (Φ : Array Value → World → Prop) (h1 : 208 ≤ z) (h2 : z ≤ 217) : Calls Tryd.prog 12 #[.int .i64 z, .string s] w fun e w' => RP 1 Φ w e w' := by
  have HTOK := Lib.hid trivial
  have h3 : ¬ z < 192 := by omega
  have h4 : ¬ 254 < z := by omega
  go_enter Tryd.func12, Tryd.ntmps12
  go_wp2_with (first
    | refine builtSw rfl _ rfl z rfl ?_
    | (have ht := HTOK.out; refine wpList_freshG rfl 38 _ _ rfl (w.heap.size + 1) (size_alloc _ _) (dz z) _ rfl rfl (size38 _ rfl) (by kernel_rfl) (dz_one _) ?_; intro y hy hby; have H1 := Lib.hid (PD.start (by kernel_rfl) hy hby); have x1 := H1.out.free 1; have x2 : y.cell? ⟨w.heap.size + 1, 1, none⟩ = some (.string ⟨#[]⟩) := H1.out.get 1; clear hy hby HTOK ht)
    | refine builtS0w rfl rfl ?_
    | (refine wpList_res H1.out rfl (dz_one _) rfl _ _ rfl rfl rfl ?_; intro wf hf hbt hb; have HFF := Lib.hid hf; have HBF := Lib.hid hb; clear hf hbt hb))
  refine bodyPost_ret_by (results_row_tmp rfl _ _ w.heap.size _ rfl (run_loadVar_row _ w.heap.size 38 38 _ (0, 0) _ HFF.out Tryd.underlying38 rfl (size38 _ rfl)) _ rfl) rfl ⟨.inr ⟨by decide, _, rfl, rfl, dz_one _⟩, HBF.out⟩
set_option maxRecDepth 100000 in
set_option maxHeartbeats 4000000 in
theorem RP_6 (z : Int) (Φ : Array Value → World → Prop) (h : refu z = 6) : Calls Tryd.prog 12 #[.int .i64 z, .string s] w fun e w' => RP 6 Φ w e w' := by
  have HTOK := Lib.hid trivial
  have hz : (194 < z ∧ z < 208 ∧ z ≠ 196) ∨ (z = 220 ∨ z = 222 ∨ z = 223) ∨ (240 ≤ z ∧ z ≤ 253) := by
    unfold refu at h
    split at h
    · cases h
    · split at h
      · cases h
      · split at h
        · cases h
        · omega
  have b1 : 194 < z := by omega
  have b2 : (z != 196) = true := by rw [bne_iff_ne]; omega
  have b3 : (z != 218) = true := by rw [bne_iff_ne]; omega
  have b4 : (z != 219) = true := by rw [bne_iff_ne]; omega
  have b5 : (z != 221) = true := by rw [bne_iff_ne]; omega
  have b6 : (z == 254) = false := by rw [beq_eq_false_iff_ne]; omega
  have b7 : ¬ z < 192 := by omega
  have b8 : ¬ 254 < z := by omega
  clear h
  rcases hz with ⟨h1, h2, h3⟩ | h | ⟨h1, h2⟩
  · have h4 : ¬ 208 ≤ z := by omega
    have h5 : ¬ 224 ≤ z := by omega
    clear h3
    go_enter Tryd.func12, Tryd.ntmps12
    go_wp2_with (first
      | refine builtSw rfl _ rfl z rfl ?_
      | (have ht := HTOK.out; refine wpList_freshG rfl 38 _ _ rfl (w.heap.size + 1) (size_alloc _ _) (dz z) _ rfl rfl (size38 _ rfl) (by kernel_rfl) (dz_one _) ?_; intro y hy hby; have H1 := Lib.hid (PD.start (by kernel_rfl) hy hby); have x1 := H1.out.free 1; have x2 : y.cell? ⟨w.heap.size + 1, 1, none⟩ = some (.string ⟨#[]⟩) := H1.out.get 1; clear hy hby HTOK ht)
      | refine builtS0w rfl rfl ?_
      | (refine wpList_res H1.out rfl (dz_one _) rfl _ _ rfl rfl rfl ?_; intro wf hf hbt hb; have HFF := Lib.hid hf; have HBF := Lib.hid hb; clear hf hbt hb))
    refine bodyPost_ret_by (results_row_tmp rfl _ _ w.heap.size _ rfl (run_loadVar_row _ w.heap.size 38 38 _ (0, 0) _ HFF.out Tryd.underlying38 rfl (size38 _ rfl)) _ rfl) rfl ⟨.inr ⟨by decide, _, rfl, rfl, dz_one _⟩, HBF.out⟩
  · have h4 : 208 ≤ z := by omega
    have h6 : ¬ z ≤ 217 := by omega
    have h5 : ¬ 224 ≤ z := by omega
    clear h
    go_enter Tryd.func12, Tryd.ntmps12
    go_wp2_with (first
      | refine builtSw rfl _ rfl z rfl ?_
      | (have ht := HTOK.out; refine wpList_freshG rfl 38 _ _ rfl (w.heap.size + 1) (size_alloc _ _) (dz z) _ rfl rfl (size38 _ rfl) (by kernel_rfl) (dz_one _) ?_; intro y hy hby; have H1 := Lib.hid (PD.start (by kernel_rfl) hy hby); have x1 := H1.out.free 1; have x2 : y.cell? ⟨w.heap.size + 1, 1, none⟩ = some (.string ⟨#[]⟩) := H1.out.get 1; clear hy hby HTOK ht)
      | refine builtS0w rfl rfl ?_
      | (refine wpList_res H1.out rfl (dz_one _) rfl _ _ rfl rfl rfl ?_; intro wf hf hbt hb; have HFF := Lib.hid hf; have HBF := Lib.hid hb; clear hf hbt hb))
    refine bodyPost_ret_by (results_row_tmp rfl _ _ w.heap.size _ rfl (run_loadVar_row _ w.heap.size 38 38 _ (0, 0) _ HFF.out Tryd.underlying38 rfl (size38 _ rfl)) _ rfl) rfl ⟨.inr ⟨by decide, _, rfl, rfl, dz_one _⟩, HBF.out⟩
  · have h4 : 208 ≤ z := by omega
    have h6 : ¬ z ≤ 217 := by omega
    have h5 : 224 ≤ z := by omega
    have h7 : ¬ z ≤ 239 := by omega
    go_enter Tryd.func12, Tryd.ntmps12
    go_wp2_with (first
      | refine builtSw rfl _ rfl z rfl ?_
      | (have ht := HTOK.out; refine wpList_freshG rfl 38 _ _ rfl (w.heap.size + 1) (size_alloc _ _) (dz z) _ rfl rfl (size38 _ rfl) (by kernel_rfl) (dz_one _) ?_; intro y hy hby; have H1 := Lib.hid (PD.start (by kernel_rfl) hy hby); have x1 := H1.out.free 1; have x2 : y.cell? ⟨w.heap.size + 1, 1, none⟩ = some (.string ⟨#[]⟩) := H1.out.get 1; clear hy hby HTOK ht)
      | refine builtS0w rfl rfl ?_
      | (refine wpList_res H1.out rfl (dz_one _) rfl _ _ rfl rfl rfl ?_; intro wf hf hbt hb; have HFF := Lib.hid hf; have HBF := Lib.hid hb; clear hf hbt hb))
    refine bodyPost_ret_by (results_row_tmp rfl _ _ w.heap.size _ rfl (run_loadVar_row _ w.heap.size 38 38 _ (0, 0) _ HFF.out Tryd.underlying38 rfl (size38 _ rfl)) _ rfl) rfl ⟨.inr ⟨by decide, _, rfl, rfl, dz_one _⟩, HBF.out⟩
/-- Codes that are known. -/
def okz (z : Int) : Prop := z = 196 ∨ z = 218 ∨ z = 219 ∨ z = 221 ∨ z = 254 ∨ (192 ≤ z ∧ z ≤ 194) ∨ (224 ≤ z ∧ z ≤ 239)
set_option maxRecDepth 100000 in
set_option maxHeartbeats 8000000 in
theorem RP_long (z : Int) (Φ : Array Value → World → Prop) (h : okz z) (hs : 65533 < s.size) : Calls Tryd.prog 12 #[.int .i64 z, .string s] w fun e w' => RP 4 Φ w e w' := by
  have HTOK := Lib.hid trivial
  have hs' : (65533 : Int) < (s.size : Int) := by omega
  rcases h with rfl | rfl | rfl | rfl | rfl | ⟨h1, h2⟩ | ⟨h1, h2⟩
  · go_enter Tryd.func12, Tryd.ntmps12
    go_wp2_with (first
      | refine builtSw rfl _ rfl 196 rfl ?_
      | (have ht := HTOK.out; refine wpList_freshG rfl 38 _ _ rfl (w.heap.size + 1) (size_alloc _ _) (dz 196) _ rfl rfl (size38 _ rfl) (by kernel_rfl) (dz_one _) ?_; intro y hy hby; have H1 := Lib.hid (PD.start (by kernel_rfl) hy hby); have x1 := H1.out.free 1; have x2 : y.cell? ⟨w.heap.size + 1, 1, none⟩ = some (.string ⟨#[]⟩) := H1.out.get 1; clear hy hby HTOK ht)
      | refine builtS0w rfl rfl ?_
      | (refine wpList_res H1.out rfl (dz_one _) rfl _ _ rfl rfl rfl ?_; intro wf hf hbt hb; have HFF := Lib.hid hf; have HBF := Lib.hid hb; clear hf hbt hb))
    refine bodyPost_ret_by (results_row_tmp rfl _ _ w.heap.size _ rfl (run_loadVar_row _ w.heap.size 38 38 _ (0, 0) _ HFF.out Tryd.underlying38 rfl (size38 _ rfl)) _ rfl) rfl ⟨.inr ⟨by decide, _, rfl, rfl, dz_one _⟩, HBF.out⟩
  · go_enter Tryd.func12, Tryd.ntmps12
    go_wp2_with (first
      | refine builtSw rfl _ rfl 218 rfl ?_
      | (have ht := HTOK.out; refine wpList_freshG rfl 38 _ _ rfl (w.heap.size + 1) (size_alloc _ _) (dz 218) _ rfl rfl (size38 _ rfl) (by kernel_rfl) (dz_one _) ?_; intro y hy hby; have H1 := Lib.hid (PD.start (by kernel_rfl) hy hby); have x1 := H1.out.free 1; have x2 : y.cell? ⟨w.heap.size + 1, 1, none⟩ = some (.string ⟨#[]⟩) := H1.out.get 1; clear hy hby HTOK ht)
      | refine builtS0w rfl rfl ?_
      | (refine wpList_res H1.out rfl (dz_one _) rfl _ _ rfl rfl rfl ?_; intro wf hf hbt hb; have HFF := Lib.hid hf; have HBF := Lib.hid hb; clear hf hbt hb))
    refine bodyPost_ret_by (results_row_tmp rfl _ _ w.heap.size _ rfl (run_loadVar_row _ w.heap.size 38 38 _ (0, 0) _ HFF.out Tryd.underlying38 rfl (size38 _ rfl)) _ rfl) rfl ⟨.inr ⟨by decide, _, rfl, rfl, dz_one _⟩, HBF.out⟩
  · go_enter Tryd.func12, Tryd.ntmps12
    go_wp2_with (first
      | refine builtSw rfl _ rfl 219 rfl ?_
      | (have ht := HTOK.out; refine wpList_freshG rfl 38 _ _ rfl (w.heap.size + 1) (size_alloc _ _) (dz 219) _ rfl rfl (size38 _ rfl) (by kernel_rfl) (dz_one _) ?_; intro y hy hby; have H1 := Lib.hid (PD.start (by kernel_rfl) hy hby); have x1 := H1.out.free 1; have x2 : y.cell? ⟨w.heap.size + 1, 1, none⟩ = some (.string ⟨#[]⟩) := H1.out.get 1; clear hy hby HTOK ht)
      | refine builtS0w rfl rfl ?_
      | (refine wpList_res H1.out rfl (dz_one _) rfl _ _ rfl rfl rfl ?_; intro wf hf hbt hb; have HFF := Lib.hid hf; have HBF := Lib.hid hb; clear hf hbt hb))
    refine bodyPost_ret_by (results_row_tmp rfl _ _ w.heap.size _ rfl (run_loadVar_row _ w.heap.size 38 38 _ (0, 0) _ HFF.out Tryd.underlying38 rfl (size38 _ rfl)) _ rfl) rfl ⟨.inr ⟨by decide, _, rfl, rfl, dz_one _⟩, HBF.out⟩
  · go_enter Tryd.func12, Tryd.ntmps12
    go_wp2_with (first
      | refine builtSw rfl _ rfl 221 rfl ?_
      | (have ht := HTOK.out; refine wpList_freshG rfl 38 _ _ rfl (w.heap.size + 1) (size_alloc _ _) (dz 221) _ rfl rfl (size38 _ rfl) (by kernel_rfl) (dz_one _) ?_; intro y hy hby; have H1 := Lib.hid (PD.start (by kernel_rfl) hy hby); have x1 := H1.out.free 1; have x2 : y.cell? ⟨w.heap.size + 1, 1, none⟩ = some (.string ⟨#[]⟩) := H1.out.get 1; clear hy hby HTOK ht)
      | refine builtS0w rfl rfl ?_
      | (refine wpList_res H1.out rfl (dz_one _) rfl _ _ rfl rfl rfl ?_; intro wf hf hbt hb; have HFF := Lib.hid hf; have HBF := Lib.hid hb; clear hf hbt hb))
    refine bodyPost_ret_by (results_row_tmp rfl _ _ w.heap.size _ rfl (run_loadVar_row _ w.heap.size 38 38 _ (0, 0) _ HFF.out Tryd.underlying38 rfl (size38 _ rfl)) _ rfl) rfl ⟨.inr ⟨by decide, _, rfl, rfl, dz_one _⟩, HBF.out⟩
  · go_enter Tryd.func12, Tryd.ntmps12
    go_wp2_with (first
      | refine builtSw rfl _ rfl 254 rfl ?_
      | (have ht := HTOK.out; refine wpList_freshG rfl 38 _ _ rfl (w.heap.size + 1) (size_alloc _ _) (dz 254) _ rfl rfl (size38 _ rfl) (by kernel_rfl) (dz_one _) ?_; intro y hy hby; have H1 := Lib.hid (PD.start (by kernel_rfl) hy hby); have x1 := H1.out.free 1; have x2 : y.cell? ⟨w.heap.size + 1, 1, none⟩ = some (.string ⟨#[]⟩) := H1.out.get 1; clear hy hby HTOK ht)
      | refine builtS0w rfl rfl ?_
      | (refine wpList_res H1.out rfl (dz_one _) rfl _ _ rfl rfl rfl ?_; intro wf hf hbt hb; have HFF := Lib.hid hf; have HBF := Lib.hid hb; clear hf hbt hb))
    refine bodyPost_ret_by (results_row_tmp rfl _ _ w.heap.size _ rfl (run_loadVar_row _ w.heap.size 38 38 _ (0, 0) _ HFF.out Tryd.underlying38 rfl (size38 _ rfl)) _ rfl) rfl ⟨.inr ⟨by decide, _, rfl, rfl, dz_one _⟩, HBF.out⟩
  · have b1 : ¬ 194 < z := by omega
    have b7 : ¬ z < 192 := by omega
    have b8 : ¬ 254 < z := by omega
    have h4 : ¬ 208 ≤ z := by omega
    have h5 : ¬ 224 ≤ z := by omega
    have b6 : (z == 254) = false := by rw [beq_eq_false_iff_ne]; omega
    go_enter Tryd.func12, Tryd.ntmps12
    go_wp2_with (first
      | refine builtSw rfl _ rfl z rfl ?_
      | (have ht := HTOK.out; refine wpList_freshG rfl 38 _ _ rfl (w.heap.size + 1) (size_alloc _ _) (dz z) _ rfl rfl (size38 _ rfl) (by kernel_rfl) (dz_one _) ?_; intro y hy hby; have H1 := Lib.hid (PD.start (by kernel_rfl) hy hby); have x1 := H1.out.free 1; have x2 : y.cell? ⟨w.heap.size + 1, 1, none⟩ = some (.string ⟨#[]⟩) := H1.out.get 1; clear hy hby HTOK ht)
      | refine builtS0w rfl rfl ?_
      | (refine wpList_res H1.out rfl (dz_one _) rfl _ _ rfl rfl rfl ?_; intro wf hf hbt hb; have HFF := Lib.hid hf; have HBF := Lib.hid hb; clear hf hbt hb))
    refine bodyPost_ret_by (results_row_tmp rfl _ _ w.heap.size _ rfl (run_loadVar_row _ w.heap.size 38 38 _ (0, 0) _ HFF.out Tryd.underlying38 rfl (size38 _ rfl)) _ rfl) rfl ⟨.inr ⟨by decide, _, rfl, rfl, dz_one _⟩, HBF.out⟩
  · have b7 : ¬ z < 192 := by omega
    have b8 : ¬ 254 < z := by omega
    have h4 : 208 ≤ z := by omega
    have h6 : ¬ z ≤ 217 := by omega
    go_enter Tryd.func12, Tryd.ntmps12
    go_wp2_with (first
      | refine builtSw rfl _ rfl z rfl ?_
      | (have ht := HTOK.out; refine wpList_freshG rfl 38 _ _ rfl (w.heap.size + 1) (size_alloc _ _) (dz z) _ rfl rfl (size38 _ rfl) (by kernel_rfl) (dz_one _) ?_; intro y hy hby; have H1 := Lib.hid (PD.start (by kernel_rfl) hy hby); have x1 := H1.out.free 1; have x2 : y.cell? ⟨w.heap.size + 1, 1, none⟩ = some (.string ⟨#[]⟩) := H1.out.get 1; clear hy hby HTOK ht)
      | refine builtS0w rfl rfl ?_
      | (refine wpList_res H1.out rfl (dz_one _) rfl _ _ rfl rfl rfl ?_; intro wf hf hbt hb; have HFF := Lib.hid hf; have HBF := Lib.hid hb; clear hf hbt hb))
    refine bodyPost_ret_by (results_row_tmp rfl _ _ w.heap.size _ rfl (run_loadVar_row _ w.heap.size 38 38 _ (0, 0) _ HFF.out Tryd.underlying38 rfl (size38 _ rfl)) _ rfl) rfl ⟨.inr ⟨by decide, _, rfl, rfl, dz_one _⟩, HBF.out⟩
set_option maxRecDepth 100000 in
set_option maxHeartbeats 8000000 in
theorem RP_quants (hs : s.size ≤ 65533) : Calls Tryd.prog 12 #[.int .i64 219, .string s] w fun e w' => RP (rall (rquant s) s (0, 0)).2.2 (fun cs w' => ∃ v, cs = (dsg 219 ⟨#[]⟩ v (.slice none 0 0) 0 0 (.slice none 0 0) (.slice none 0 0) 0 0 0 0 0) ∧ OwnR 66 66 quantC w.heap.size v (rall (rquant s) s (0, 0)).1 w') w e w' := by
  have HTOK := Lib.hid trivial
  have hs' : ¬ (65533 : Int) < (s.size : Int) := by omega
  have HQ := Lib.hid fun x => quants_any s hs x
  generalize (rall (rquant s) s (0, 0)).1 = L at *
  generalize (rall (rquant s) s (0, 0)).2.2 = E at *
  by_cases hE : E = 0
  · subst hE
    have HY : Hid (∀ x, Calls Tryd.prog 34 #[.string s] x fun e w' => ∃ v, e = .returned (.tuple #[v, .int .i64 0]) ∧ OwnR 66 66 quantC x.heap.size v L w' ∧ Below x.heap.size x w') := fun x => (HQ.out x).mono fun e w' h => by
      rcases h.1 with ⟨_, v, h1, h2⟩ | ⟨h1, _⟩
      · exact ⟨v, h1, h2, h.2⟩
      · exact absurd rfl h1
    clear HQ
    go_enter Tryd.func12, Tryd.ntmps12
    go_wp2_with (first
      | refine builtSw rfl _ rfl 219 rfl ?_
      | (have ht := HTOK.out; refine wpList_freshG rfl 38 _ _ rfl (w.heap.size + 1) (size_alloc _ _) (dz 219) _ rfl rfl (size38 _ rfl) (by kernel_rfl) (dz_one _) ?_; intro y hy hby; have H1 := Lib.hid (PD.start (by kernel_rfl) hy hby); have x1 := H1.out.free 1; have x2 : y.cell? ⟨w.heap.size + 1, 1, none⟩ = some (.string ⟨#[]⟩) := H1.out.get 1; clear hy hby HTOK ht)
      | (go_at_call 34; refine (HY.out _).mono ?_; rintro e w4 ⟨v, rfl, ho, hb⟩; obtain ⟨p, m, c, rfl, hm⟩ := ho.shape; have h2 := H1.out.frame hb; have H3 := Lib.hid (h2.set (i := 2) (v := (.slice p m c)) (cs' := (dsg 219 ⟨#[]⟩ (.slice p m c) (.slice none 0 0) 0 0 (.slice none 0 0) (.slice none 0 0) 0 0 0 0 0)) rfl); have HO := Lib.hid ((ho.mono H1.out.low.size).setCell (i := 2) (u := (.slice p m c)) h2.seg (by decide)); have z2 : w4.cell? ⟨w.heap.size + 1, 2, none⟩ = some (.slice none 0 0) := h2.get 2; have z3 := h2.free 2; clear ho hb hm h2 HY H1)
      | refine wpList_load_row rfl 38 _ rfl (w.heap.size + 1) rfl 38 (dsg 219 ⟨#[]⟩ (.slice p m c) (.slice none 0 0) 0 0 (.slice none 0 0) (.slice none 0 0) 0 0 0 0 0) (0, 0) _ H3.out.seg Tryd.underlying38 rfl (size38 _ rfl) ?_
      | (refine wpList_res H3.out rfl (dsg_one _ _ _ _ _ _ _ _ _ _ _ _ _ _ _ _ _ _ _ _ _) rfl _ _ rfl rfl rfl ?_; intro wf hf hbt hb; have HFF := Lib.hid hf; have HBF := Lib.hid hb; obtain ⟨Z, hZ, hr⟩ := H3.out.res; have HO5 := Lib.hid (HO.out.but hr (by decide) hbt); clear hZ hr; clear hf hbt hb))
    refine bodyPost_ret_by (results_row_tmp rfl _ _ w.heap.size _ rfl (run_loadVar_row _ w.heap.size 38 38 _ (0, 0) _ HFF.out Tryd.underlying38 rfl (size38 _ rfl)) _ rfl) rfl ⟨.inl ⟨rfl, _, rfl, _, rfl, HO5.out⟩, HBF.out⟩
  · have HE := Lib.hid hE
    have HY : Hid (∀ x, Calls Tryd.prog 34 #[.string s] x fun e w' => e = .returned (.tuple #[.slice none 0 0, .int .i64 E]) ∧ Below x.heap.size x w') := fun x => (HQ.out x).mono fun e w' h => by
      rcases h.1 with ⟨h1, _⟩ | ⟨_, h1⟩
      · exact absurd h1 hE
      · exact ⟨h1, h.2⟩
    have hE' : ((E : Int) != 0) = true := by rw [bne_iff_ne]; omega
    clear HQ hE
    go_enter Tryd.func12, Tryd.ntmps12
    go_wp2_with (first
      | refine builtSw rfl _ rfl 219 rfl ?_
      | (have ht := HTOK.out; refine wpList_freshG rfl 38 _ _ rfl (w.heap.size + 1) (size_alloc _ _) (dz 219) _ rfl rfl (size38 _ rfl) (by kernel_rfl) (dz_one _) ?_; intro y hy hby; have H1 := Lib.hid (PD.start (by kernel_rfl) hy hby); have x1 := H1.out.free 1; have x2 : y.cell? ⟨w.heap.size + 1, 1, none⟩ = some (.string ⟨#[]⟩) := H1.out.get 1; clear hy hby HTOK ht)
      | (go_at_call 34; refine (HY.out _).mono ?_; rintro e w4 ⟨rfl, hb⟩; have h2 := H1.out.frame hb; have H3 := Lib.hid (h2.set (i := 2) (v := .slice none 0 0) (cs' := dz 219) rfl); have z2 : w4.cell? ⟨w.heap.size + 1, 2, none⟩ = some (.slice none 0 0) := h2.get 2; have z3 := h2.free 2; clear hb h2 HY H1)
      | refine builtS0w rfl rfl ?_
      | (refine wpList_res H3.out rfl (dz_one _) rfl _ _ rfl rfl rfl ?_; intro wf hf hbt hb; have HFF := Lib.hid hf; have HBF := Lib.hid hb; clear hf hbt hb))
    refine bodyPost_ret_by (results_row_tmp rfl _ _ w.heap.size _ rfl (run_loadVar_row _ w.heap.size 38 38 _ (0, 0) _ HFF.out Tryd.underlying38 rfl (size38 _ rfl)) _ rfl) rfl ⟨.inr ⟨HE.out, _, rfl, rfl, dz_one _⟩, HBF.out⟩
set_option maxRecDepth 100000 in
set_option maxHeartbeats 8000000 in
theorem RP_huffs (hs : s.size ≤ 65533) : Calls Tryd.prog 12 #[.int .i64 196, .string s] w fun e w' => RP (rall (rhuff s) s (0, 0)).2.2 (fun cs w' => ∃ v, cs = (dsg 196 ⟨#[]⟩ (.slice none 0 0) v 0 0 (.slice none 0 0) (.slice none 0 0) 0 0 0 0 0) ∧ OwnR 73 19 cellsH w.heap.size v (rall (rhuff s) s (0, 0)).1 w') w e w' := by
  have HTOK := Lib.hid trivial
  have hs' : ¬ (65533 : Int) < (s.size : Int) := by omega
  have HQ := Lib.hid fun x => huffs_any s hs x
  generalize (rall (rhuff s) s (0, 0)).1 = L at *
  generalize (rall (rhuff s) s (0, 0)).2.2 = E at *
  by_cases hE : E = 0
  · subst hE
    have HY : Hid (∀ x, Calls Tryd.prog 35 #[.string s] x fun e w' => ∃ v, e = .returned (.tuple #[v, .int .i64 0]) ∧ OwnR 73 19 cellsH x.heap.size v L w' ∧ Below x.heap.size x w') := fun x => (HQ.out x).mono fun e w' h => by
      rcases h.1 with ⟨_, v, h1, h2⟩ | ⟨h1, _⟩
      · exact ⟨v, h1, h2, h.2⟩
      · exact absurd rfl h1
    clear HQ
    go_enter Tryd.func12, Tryd.ntmps12
    go_wp2_with (first
      | refine builtSw rfl _ rfl 196 rfl ?_
      | (have ht := HTOK.out; refine wpList_freshG rfl 38 _ _ rfl (w.heap.size + 1) (size_alloc _ _) (dz 196) _ rfl rfl (size38 _ rfl) (by kernel_rfl) (dz_one _) ?_; intro y hy hby; have H1 := Lib.hid (PD.start (by kernel_rfl) hy hby); have x1 := H1.out.free 1; have x2 : y.cell? ⟨w.heap.size + 1, 1, none⟩ = some (.string ⟨#[]⟩) := H1.out.get 1; clear hy hby HTOK ht)
      | (go_at_call 35; refine (HY.out _).mono ?_; rintro e w4 ⟨v, rfl, ho, hb⟩; obtain ⟨p, m, c, rfl, hm⟩ := ho.shape; have h2 := H1.out.frame hb; have H3 := Lib.hid (h2.set (i := 3) (v := (.slice p m c)) (cs' := (dsg 196 ⟨#[]⟩ (.slice none 0 0) (.slice p m c) 0 0 (.slice none 0 0) (.slice none 0 0) 0 0 0 0 0)) rfl); have HO := Lib.hid ((ho.mono H1.out.low.size).setCell (i := 3) (u := (.slice p m c)) h2.seg (by decide)); have z2 : w4.cell? ⟨w.heap.size + 1, 3, none⟩ = some (.slice none 0 0) := h2.get 3; have z3 := h2.free 3; clear ho hb hm h2 HY H1)
      | refine wpList_load_row rfl 38 _ rfl (w.heap.size + 1) rfl 38 (dsg 196 ⟨#[]⟩ (.slice none 0 0) (.slice p m c) 0 0 (.slice none 0 0) (.slice none 0 0) 0 0 0 0 0) (0, 0) _ H3.out.seg Tryd.underlying38 rfl (size38 _ rfl) ?_
      | (refine wpList_res H3.out rfl (dsg_one _ _ _ _ _ _ _ _ _ _ _ _ _ _ _ _ _ _ _ _ _) rfl _ _ rfl rfl rfl ?_; intro wf hf hbt hb; have HFF := Lib.hid hf; have HBF := Lib.hid hb; obtain ⟨Z, hZ, hr⟩ := H3.out.res; have HO5 := Lib.hid (HO.out.but hr (by decide) hbt); clear hZ hr; clear hf hbt hb))
    refine bodyPost_ret_by (results_row_tmp rfl _ _ w.heap.size _ rfl (run_loadVar_row _ w.heap.size 38 38 _ (0, 0) _ HFF.out Tryd.underlying38 rfl (size38 _ rfl)) _ rfl) rfl ⟨.inl ⟨rfl, _, rfl, _, rfl, HO5.out⟩, HBF.out⟩
  · have HE := Lib.hid hE
    have HY : Hid (∀ x, Calls Tryd.prog 35 #[.string s] x fun e w' => e = .returned (.tuple #[.slice none 0 0, .int .i64 E]) ∧ Below x.heap.size x w') := fun x => (HQ.out x).mono fun e w' h => by
      rcases h.1 with ⟨h1, _⟩ | ⟨_, h1⟩
      · exact absurd h1 hE
      · exact ⟨h1, h.2⟩
    have hE' : ((E : Int) != 0) = true := by rw [bne_iff_ne]; omega
    clear HQ hE
    go_enter Tryd.func12, Tryd.ntmps12
    go_wp2_with (first
      | refine builtSw rfl _ rfl 196 rfl ?_
      | (have ht := HTOK.out; refine wpList_freshG rfl 38 _ _ rfl (w.heap.size + 1) (size_alloc _ _) (dz 196) _ rfl rfl (size38 _ rfl) (by kernel_rfl) (dz_one _) ?_; intro y hy hby; have H1 := Lib.hid (PD.start (by kernel_rfl) hy hby); have x1 := H1.out.free 1; have x2 : y.cell? ⟨w.heap.size + 1, 1, none⟩ = some (.string ⟨#[]⟩) := H1.out.get 1; clear hy hby HTOK ht)
      | (go_at_call 35; refine (HY.out _).mono ?_; rintro e w4 ⟨rfl, hb⟩; have h2 := H1.out.frame hb; have H3 := Lib.hid (h2.set (i := 3) (v := .slice none 0 0) (cs' := dz 196) rfl); have z2 : w4.cell? ⟨w.heap.size + 1, 3, none⟩ = some (.slice none 0 0) := h2.get 3; have z3 := h2.free 3; clear hb h2 HY H1)
      | refine builtS0w rfl rfl ?_
      | (refine wpList_res H3.out rfl (dz_one _) rfl _ _ rfl rfl rfl ?_; intro wf hf hbt hb; have HFF := Lib.hid hf; have HBF := Lib.hid hb; clear hf hbt hb))
    refine bodyPost_ret_by (results_row_tmp rfl _ _ w.heap.size _ rfl (run_loadVar_row _ w.heap.size 38 38 _ (0, 0) _ HFF.out Tryd.underlying38 rfl (size38 _ rfl)) _ rfl) rfl ⟨.inr ⟨HE.out, _, rfl, rfl, dz_one _⟩, HBF.out⟩
set_option maxRecDepth 100000 in
set_option maxHeartbeats 8000000 in
theorem RP_rest (hs : s.size ≤ 65533) : Calls Tryd.prog 12 #[.int .i64 221, .string s] w fun e w' => RP (if s.size = 2 then 0 else 4) (fun cs _ => cs = (dsg 221 ⟨#[]⟩ (.slice none 0 0) (.slice none 0 0) 0 0 (.slice none 0 0) (.slice none 0 0) 0 0 0 0 (rby2 s 0))) w e w' := by
  have HTOK := Lib.hid trivial
  have hs' : ¬ (65533 : Int) < (s.size : Int) := by omega
  have HY := Lib.hid fun x => (show Calls Tryd.prog 37 #[.string s, .int .i64 0] x fun e w' => e = .returned (.int .i64 (rby2 s 0)) ∧ Below x.heap.size x w' from pairAt_any s 0 (by unfold maxLen; omega) x)
  generalize rby2 s 0 = N at *
  by_cases h2 : s.size = 2
  · rw [if_pos h2]
    have b1 : ((s.size : Int) != 2) = false := by rw [bne_eq_false_iff_eq]; omega
    clear h2
    go_enter Tryd.func12, Tryd.ntmps12
    go_wp2_with (first
      | refine builtSw rfl _ rfl 221 rfl ?_
      | (have ht := HTOK.out; refine wpList_freshG rfl 38 _ _ rfl (w.heap.size + 1) (size_alloc _ _) (dz 221) _ rfl rfl (size38 _ rfl) (by kernel_rfl) (dz_one _) ?_; intro y hy hby; have H1 := Lib.hid (PD.start (by kernel_rfl) hy hby); have x1 := H1.out.free 1; have x2 : y.cell? ⟨w.heap.size + 1, 1, none⟩ = some (.string ⟨#[]⟩) := H1.out.get 1; clear hy hby HTOK ht)
      | (go_at_call 37; refine (HY.out _).mono ?_; rintro e w4 ⟨rfl, hb⟩; have h2 := H1.out.frame hb; have H3 := Lib.hid (h2.set (i := 12) (v := .int .i64 N) (cs' := (dsg 221 ⟨#[]⟩ (.slice none 0 0) (.slice none 0 0) 0 0 (.slice none 0 0) (.slice none 0 0) 0 0 0 0 N)) rfl); have z2 : w4.cell? ⟨w.heap.size + 1, 12, none⟩ = some (.int .i64 0) := h2.get 12; have z3 := h2.free 12; clear hb h2 HY H1)
      | refine wpList_load_row rfl 38 _ rfl (w.heap.size + 1) rfl 38 (dsg 221 ⟨#[]⟩ (.slice none 0 0) (.slice none 0 0) 0 0 (.slice none 0 0) (.slice none 0 0) 0 0 0 0 N) (0, 0) _ H3.out.seg Tryd.underlying38 rfl (size38 _ rfl) ?_
      | (refine wpList_res H3.out rfl (dsg_one _ _ _ _ _ _ _ _ _ _ _ _ _ _ _ _ _ _ _ _ _) rfl _ _ rfl rfl rfl ?_; intro wf hf hbt hb; have HFF := Lib.hid hf; have HBF := Lib.hid hb; clear hf hbt hb))
    refine bodyPost_ret_by (results_row_tmp rfl _ _ w.heap.size _ rfl (run_loadVar_row _ w.heap.size 38 38 _ (0, 0) _ HFF.out Tryd.underlying38 rfl (size38 _ rfl)) _ rfl) rfl ⟨.inl ⟨rfl, _, rfl, rfl⟩, HBF.out⟩
  · rw [if_neg h2]
    have b1 : ((s.size : Int) != 2) = true := by rw [bne_iff_ne]; omega
    clear h2
    go_enter Tryd.func12, Tryd.ntmps12
    go_wp2_with (first
      | refine builtSw rfl _ rfl 221 rfl ?_
      | (have ht := HTOK.out; refine wpList_freshG rfl 38 _ _ rfl (w.heap.size + 1) (size_alloc _ _) (dz 221) _ rfl rfl (size38 _ rfl) (by kernel_rfl) (dz_one _) ?_; intro y hy hby; have H1 := Lib.hid (PD.start (by kernel_rfl) hy hby); have x1 := H1.out.free 1; have x2 : y.cell? ⟨w.heap.size + 1, 1, none⟩ = some (.string ⟨#[]⟩) := H1.out.get 1; clear hy hby HTOK ht)
      | (go_at_call 37; refine (HY.out _).mono ?_; rintro e w4 ⟨rfl, hb⟩; have h2 := H1.out.frame hb; have H3 := Lib.hid (h2.set (i := 12) (v := .int .i64 N) (cs' := (dsg 221 ⟨#[]⟩ (.slice none 0 0) (.slice none 0 0) 0 0 (.slice none 0 0) (.slice none 0 0) 0 0 0 0 N)) rfl); have z2 : w4.cell? ⟨w.heap.size + 1, 12, none⟩ = some (.int .i64 0) := h2.get 12; have z3 := h2.free 12; clear hb h2 HY H1)
      | refine builtS0w rfl rfl ?_
      | (refine wpList_res H3.out rfl (dz_one _) rfl _ _ rfl rfl rfl ?_; intro wf hf hbt hb; have HFF := Lib.hid hf; have HBF := Lib.hid hb; clear hf hbt hb))
    refine bodyPost_ret_by (results_row_tmp rfl _ _ w.heap.size _ rfl (run_loadVar_row _ w.heap.size 38 38 _ (0, 0) _ HFF.out Tryd.underlying38 rfl (size38 _ rfl)) _ rfl) rfl ⟨.inr ⟨by decide, _, rfl, rfl, dz_one _⟩, HBF.out⟩
end
/-! The document's Parse: plain segments. -/
section
variable (s : ByteArray) (w : World)
set_option maxRecDepth 100000 in
set_option maxHeartbeats 8000000 in
theorem RP_plain (z : Int) (h : (224 ≤ z ∧ z ≤ 239) ∨ z = 254) (hs : s.size ≤ 65533) : Calls Tryd.prog 12 #[.int .i64 z, .string s] w fun e w' => RP 0 (fun cs _ => cs = (dsg z s (.slice none 0 0) (.slice none 0 0) 0 0 (.slice none 0 0) (.slice none 0 0) 0 0 0 0 0)) w e w' := by
  have HTOK := Lib.hid trivial
  have hs' : ¬ (65533 : Int) < (s.size : Int) := by omega
  have HP2 : Hid (∀ y, PD (dz z) w y → PD (dsg z s (.slice none 0 0) (.slice none 0 0) 0 0 (.slice none 0 0) (.slice none 0 0) 0 0 0 0 0) w (y.setCell ⟨w.heap.size + 1, 1, none⟩ (.string s))) := fun y hy => hy.set rfl
  rcases h with ⟨h1, h2⟩ | h
  · have b7 : ¬ z < 192 := by omega
    have b8 : ¬ 254 < z := by omega
    have h4 : 208 ≤ z := by omega
    have h6 : ¬ z ≤ 217 := by omega
    go_enter Tryd.func12, Tryd.ntmps12
    go_wp2_with (first
      | refine builtSw rfl _ rfl z rfl ?_
      | (have ht := HTOK.out; refine wpList_freshG rfl 38 _ _ rfl (w.heap.size + 1) (size_alloc _ _) (dz z) _ rfl rfl (size38 _ rfl) (by kernel_rfl) (dz_one _) ?_; intro y hy hby; have H1 := Lib.hid (PD.start (by kernel_rfl) hy hby); have x1 := H1.out.free 1; have x2 : y.cell? ⟨w.heap.size + 1, 1, none⟩ = some (.string ⟨#[]⟩) := H1.out.get 1; clear hy hby HTOK ht)
      | refine wpList_load_row rfl 38 _ rfl (w.heap.size + 1) rfl 38 (dsg z s (.slice none 0 0) (.slice none 0 0) 0 0 (.slice none 0 0) (.slice none 0 0) 0 0 0 0 0) (0, 0) _ (HP2.out _ H1.out).seg Tryd.underlying38 rfl (size38 _ rfl) ?_
      | (refine wpList_res (HP2.out _ H1.out) rfl (dsg_one _ _ _ _ _ _ _ _ _ _ _ _ _ _ _ _ _ _ _ _ _) rfl _ _ rfl rfl rfl ?_; intro wf hf hbt hb; have HFF := Lib.hid hf; have HBF := Lib.hid hb; clear hf hbt hb))
    refine bodyPost_ret_by (results_row_tmp rfl _ _ w.heap.size _ rfl (run_loadVar_row _ w.heap.size 38 38 _ (0, 0) _ HFF.out Tryd.underlying38 rfl (size38 _ rfl)) _ rfl) rfl ⟨.inl ⟨rfl, _, rfl, rfl⟩, HBF.out⟩
  · subst h
    go_enter Tryd.func12, Tryd.ntmps12
    go_wp2_with (first
      | refine builtSw rfl _ rfl 254 rfl ?_
      | (have ht := HTOK.out; refine wpList_freshG rfl 38 _ _ rfl (w.heap.size + 1) (size_alloc _ _) (dz 254) _ rfl rfl (size38 _ rfl) (by kernel_rfl) (dz_one _) ?_; intro y hy hby; have H1 := Lib.hid (PD.start (by kernel_rfl) hy hby); have x1 := H1.out.free 1; have x2 : y.cell? ⟨w.heap.size + 1, 1, none⟩ = some (.string ⟨#[]⟩) := H1.out.get 1; clear hy hby HTOK ht)
      | refine wpList_load_row rfl 38 _ rfl (w.heap.size + 1) rfl 38 (dsg 254 s (.slice none 0 0) (.slice none 0 0) 0 0 (.slice none 0 0) (.slice none 0 0) 0 0 0 0 0) (0, 0) _ (HP2.out _ H1.out).seg Tryd.underlying38 rfl (size38 _ rfl) ?_
      | (refine wpList_res (HP2.out _ H1.out) rfl (dsg_one _ _ _ _ _ _ _ _ _ _ _ _ _ _ _ _ _ _ _ _ _) rfl _ _ rfl rfl rfl ?_; intro wf hf hbt hb; have HFF := Lib.hid hf; have HBF := Lib.hid hb; clear hf hbt hb))
    refine bodyPost_ret_by (results_row_tmp rfl _ _ w.heap.size _ rfl (run_loadVar_row _ w.heap.size 38 38 _ (0, 0) _ HFF.out Tryd.underlying38 rfl (size38 _ rfl)) _ rfl) rfl ⟨.inl ⟨rfl, _, rfl, rfl⟩, HBF.out⟩
end
/-! The document's Parse: scans, frames; whatever code and body. -/
set_option maxRecDepth 100000 in
set_option maxHeartbeats 8000000 in
theorem RP_scan (s : ByteArray) (hs : s.size ≤ 65533) (w : World) : Calls Tryd.prog 12 #[.int .i64 218, .string s] w fun e w' => RP (escan s) (fun cs w' => ∃ v, cs = (sg 218 0 0 (.slice none 0 0) v ((rscan s (0, 0)).1.2.1 : Nat) ((rscan s (0, 0)).1.2.2.1 : Nat) ((rscan s (0, 0)).1.2.2.2.1 : Nat) ((rscan s (0, 0)).1.2.2.2.2 : Nat)) ∧ OwnR 118 3 cellsK w.heap.size v (rscan s (0, 0)).1.1 w') w e w' := by
  have HTOK := Lib.hid trivial
  have hs' : ¬ (65533 : Int) < (s.size : Int) := by omega
  have HQ := Lib.hid fun x => (show Calls Tryd.prog 36 #[.agg (dz 218), .string s] x fun e w' => ScanPost 218 s x e w' from scan_any 218 s hs x)
  by_cases hE : escan s = 0
  · have HY : Hid (∀ x, Calls Tryd.prog 36 #[.agg (dz 218), .string s] x fun e w' => ∃ v, e = .returned (.tuple #[.agg (sg 218 0 0 (.slice none 0 0) v ((rscan s (0, 0)).1.2.1 : Nat) ((rscan s (0, 0)).1.2.2.1 : Nat) ((rscan s (0, 0)).1.2.2.2.1 : Nat) ((rscan s (0, 0)).1.2.2.2.2 : Nat)), .int .i64 0]) ∧ OwnR 118 3 cellsK x.heap.size v (rscan s (0, 0)).1.1 w' ∧ Below x.heap.size x w') := fun x => (HQ.out x).mono fun e w' h => by
      rcases h.1 with ⟨_, v, h1, h2⟩ | ⟨h1, _⟩
      · exact ⟨v, h1, h2, h.2⟩
      · exact absurd hE h1
    have HE := Lib.hid fun _ : Unit => hE
    clear HQ hE
    generalize (rscan s (0, 0)).1.2.1 = q1 at *
    generalize (rscan s (0, 0)).1.2.2.1 = q2 at *
    generalize (rscan s (0, 0)).1.2.2.2.1 = q3 at *
    generalize (rscan s (0, 0)).1.2.2.2.2 = q4 at *
    generalize (rscan s (0, 0)).1.1 = LL at *
    go_enter Tryd.func12, Tryd.ntmps12
    go_wp2_with (first
      | refine builtSw rfl _ rfl 218 rfl ?_
      | (have ht := HTOK.out; refine wpList_freshG rfl 38 _ _ rfl (w.heap.size + 1) (size_alloc _ _) (dz 218) _ rfl rfl (size38 _ rfl) (by kernel_rfl) (dz_one _) ?_; intro y hy hby; have H1 := Lib.hid (PD.start (by kernel_rfl) hy hby); have x1 := H1.out.free 1; have x2 : y.cell? ⟨w.heap.size + 1, 1, none⟩ = some (.string ⟨#[]⟩) := H1.out.get 1; clear hy hby HTOK ht)
      | refine wpList_load_row rfl 38 _ rfl (w.heap.size + 1) rfl 38 (dz 218) (0, 0) _ H1.out.seg Tryd.underlying38 rfl (size38 _ rfl) ?_
      | (go_at_call 36; refine (HY.out _).mono ?_; rintro e w4 ⟨v, rfl, ho, hb⟩; obtain ⟨p, m, c, rfl, hm⟩ := ho.shape; have H2 := Lib.hid (H1.out.frame hb); have HO := Lib.hid (ho.mono H1.out.low.size); clear ho hb hm HY H1)
      | (refine wpList_over H2.out rfl rfl (sg_one _ _ _ _ _ _ _ _ _ _ _ _ _) rfl _ _ rfl rfl rfl ?_; intro w5 hp hbt; have H3 := Lib.hid hp; have HO3 := Lib.hid (HO.out.but H2.out.seg (by decide) hbt); clear hp hbt H2 HO)
      | refine wpList_load_row rfl 38 _ rfl (w.heap.size + 1) rfl 38 (sg 218 0 0 (.slice none 0 0) (.slice p m c) (q1 : Nat) (q2 : Nat) (q3 : Nat) (q4 : Nat)) (0, 0) _ H3.out.seg Tryd.underlying38 rfl (size38 _ rfl) ?_
      | (refine wpList_res H3.out rfl (sg_one _ _ _ _ _ _ _ _ _ _ _ _ _) rfl _ _ rfl rfl rfl ?_; intro wf hf hbt hb; have HFF := Lib.hid hf; have HBF := Lib.hid hb; obtain ⟨Z, hZ, hr⟩ := H3.out.res; have HO5 := Lib.hid (HO3.out.but hr (by decide) hbt); clear hZ hr; clear hf hbt hb))
    refine bodyPost_ret_by (results_row_tmp rfl _ _ w.heap.size _ rfl (run_loadVar_row _ w.heap.size 38 38 _ (0, 0) _ HFF.out Tryd.underlying38 rfl (size38 _ rfl)) _ rfl) rfl ⟨.inl ⟨HE.out (), _, rfl, _, rfl, HO5.out⟩, HBF.out⟩
  · have HE := Lib.hid hE
    have HY : Hid (∀ x, Calls Tryd.prog 36 #[.agg (dz 218), .string s] x fun e w' => ∃ sc : Array Value, sc.size = 13 ∧ sc.all (·.oneCell') = true ∧ e = .returned (.tuple #[.agg sc, .int .i64 (escan s : Nat)]) ∧ Below x.heap.size x w') := fun x => (HQ.out x).mono fun e w' h => by
      rcases h.1 with ⟨h1, _⟩ | ⟨_, sc, h1, h2, h3⟩
      · exact absurd h1 hE
      · exact ⟨sc, h1, h2, h3, h.2⟩
    have hE' : ((escan s : Int) != 0) = true := by rw [bne_iff_ne]; omega
    generalize escan s = EE at *
    clear HQ hE
    go_enter Tryd.func12, Tryd.ntmps12
    go_wp2_with (first
      | refine builtSw rfl _ rfl 218 rfl ?_
      | (have ht := HTOK.out; refine wpList_freshG rfl 38 _ _ rfl (w.heap.size + 1) (size_alloc _ _) (dz 218) _ rfl rfl (size38 _ rfl) (by kernel_rfl) (dz_one _) ?_; intro y hy hby; have H1 := Lib.hid (PD.start (by kernel_rfl) hy hby); have x1 := H1.out.free 1; have x2 : y.cell? ⟨w.heap.size + 1, 1, none⟩ = some (.string ⟨#[]⟩) := H1.out.get 1; clear hy hby HTOK ht)
      | refine wpList_load_row rfl 38 _ rfl (w.heap.size + 1) rfl 38 (dz 218) (0, 0) _ H1.out.seg Tryd.underlying38 rfl (size38 _ rfl) ?_
      | (go_at_call 36; refine (HY.out _).mono ?_; rintro e w4 ⟨sc, hc1, hc2, rfl, hb⟩; have H2 := Lib.hid (H1.out.frame hb); have HC1 := Lib.hid hc1; have HC2 := Lib.hid hc2; clear hb hc1 hc2 HY H1)
      | (refine wpList_over H2.out rfl HC1.out HC2.out rfl _ _ rfl rfl rfl ?_; intro w5 hp hbt; have H3 := Lib.hid hp; clear hp hbt H2)
      | refine builtS0w rfl rfl ?_
      | (refine wpList_res H3.out rfl (dz_one _) rfl _ _ rfl rfl rfl ?_; intro wf hf hbt hb; have HFF := Lib.hid hf; have HBF := Lib.hid hb; clear hf hbt hb))
    refine bodyPost_ret_by (results_row_tmp rfl _ _ w.heap.size _ rfl (run_loadVar_row _ w.heap.size 38 38 _ (0, 0) _ HFF.out Tryd.underlying38 rfl (size38 _ rfl)) _ rfl) rfl ⟨.inr ⟨HE.out, _, rfl, rfl, dz_one _⟩, HBF.out⟩
set_option maxRecDepth 100000 in
set_option maxHeartbeats 8000000 in
theorem RP_frame (z : Int) (h1 : 192 ≤ z) (h2 : z ≤ 194) (s : ByteArray) (hs : s.size ≤ 65533) (w : World) : Calls Tryd.prog 12 #[.int .i64 z, .string s] w fun e w' => RP (eframe s) (fun cs w' => ∃ v, cs = (sg z ((rframe s (0, 0)).1.1 : Nat) ((rframe s (0, 0)).1.2.1 : Nat) v (.slice none 0 0) 0 0 0 0) ∧ OwnR 79 4 cellsP w.heap.size v (rframe s (0, 0)).1.2.2 w') w e w' := by
  have HTOK := Lib.hid trivial
  have hs' : ¬ (65533 : Int) < (s.size : Int) := by omega
  have HQ := Lib.hid fun x => (show Calls Tryd.prog 38 #[.agg (dz z), .string s] x fun e w' => FramePost z s x e w' from frame_any z s hs x)
  have b1 : ¬ 194 < z := by omega
  have b7 : ¬ z < 192 := by omega
  have b8 : ¬ 254 < z := by omega
  have h4 : ¬ 208 ≤ z := by omega
  have h5 : ¬ 224 ≤ z := by omega
  have b6 : (z == 254) = false := by rw [beq_eq_false_iff_ne]; omega
  have b9 : (z == 196) = false := by rw [beq_eq_false_iff_ne]; omega
  have b10 : (z == 218) = false := by rw [beq_eq_false_iff_ne]; omega
  have b11 : (z == 219) = false := by rw [beq_eq_false_iff_ne]; omega
  have b12 : (z == 221) = false := by rw [beq_eq_false_iff_ne]; omega
  by_cases hE : eframe s = 0
  · have HY : Hid (∀ x, Calls Tryd.prog 38 #[.agg (dz z), .string s] x fun e w' => ∃ v, e = .returned (.tuple #[.agg (sg z ((rframe s (0, 0)).1.1 : Nat) ((rframe s (0, 0)).1.2.1 : Nat) v (.slice none 0 0) 0 0 0 0), .int .i64 0]) ∧ OwnR 79 4 cellsP x.heap.size v (rframe s (0, 0)).1.2.2 w' ∧ Below x.heap.size x w') := fun x => (HQ.out x).mono fun e w' h => by
      rcases h.1 with ⟨_, v, h1, h2⟩ | ⟨h1, _⟩
      · exact ⟨v, h1, h2, h.2⟩
      · exact absurd hE h1
    have HE := Lib.hid fun _ : Unit => hE
    clear HQ hE
    generalize (rframe s (0, 0)).1.1 = q1 at *
    generalize (rframe s (0, 0)).1.2.1 = q2 at *
    generalize (rframe s (0, 0)).1.2.2 = LL at *
    go_enter Tryd.func12, Tryd.ntmps12
    go_wp2_with (first
      | refine builtSw rfl _ rfl z rfl ?_
      | (have ht := HTOK.out; refine wpList_freshG rfl 38 _ _ rfl (w.heap.size + 1) (size_alloc _ _) (dz z) _ rfl rfl (size38 _ rfl) (by kernel_rfl) (dz_one _) ?_; intro y hy hby; have H1 := Lib.hid (PD.start (by kernel_rfl) hy hby); have x1 := H1.out.free 1; have x2 : y.cell? ⟨w.heap.size + 1, 1, none⟩ = some (.string ⟨#[]⟩) := H1.out.get 1; clear hy hby HTOK ht)
      | refine wpList_load_row rfl 38 _ rfl (w.heap.size + 1) rfl 38 (dz z) (0, 0) _ H1.out.seg Tryd.underlying38 rfl (size38 _ rfl) ?_
      | (go_at_call 38; refine (HY.out _).mono ?_; rintro e w4 ⟨v, rfl, ho, hb⟩; obtain ⟨p, m, c, rfl, hm⟩ := ho.shape; have H2 := Lib.hid (H1.out.frame hb); have HO := Lib.hid (ho.mono H1.out.low.size); clear ho hb hm HY H1)
      | (refine wpList_over H2.out rfl rfl (sg_one _ _ _ _ _ _ _ _ _ _ _ _ _) rfl _ _ rfl rfl rfl ?_; intro w5 hp hbt; have H3 := Lib.hid hp; have HO3 := Lib.hid (HO.out.but H2.out.seg (by decide) hbt); clear hp hbt H2 HO)
      | refine wpList_load_row rfl 38 _ rfl (w.heap.size + 1) rfl 38 (sg z (q1 : Nat) (q2 : Nat) (.slice p m c) (.slice none 0 0) 0 0 0 0) (0, 0) _ H3.out.seg Tryd.underlying38 rfl (size38 _ rfl) ?_
      | (refine wpList_res H3.out rfl (sg_one _ _ _ _ _ _ _ _ _ _ _ _ _) rfl _ _ rfl rfl rfl ?_; intro wf hf hbt hb; have HFF := Lib.hid hf; have HBF := Lib.hid hb; obtain ⟨Z, hZ, hr⟩ := H3.out.res; have HO5 := Lib.hid (HO3.out.but hr (by decide) hbt); clear hZ hr; clear hf hbt hb))
    refine bodyPost_ret_by (results_row_tmp rfl _ _ w.heap.size _ rfl (run_loadVar_row _ w.heap.size 38 38 _ (0, 0) _ HFF.out Tryd.underlying38 rfl (size38 _ rfl)) _ rfl) rfl ⟨.inl ⟨HE.out (), _, rfl, _, rfl, HO5.out⟩, HBF.out⟩
  · have HE := Lib.hid hE
    have HY : Hid (∀ x, Calls Tryd.prog 38 #[.agg (dz z), .string s] x fun e w' => ∃ sc : Array Value, sc.size = 13 ∧ sc.all (·.oneCell') = true ∧ e = .returned (.tuple #[.agg sc, .int .i64 (eframe s : Nat)]) ∧ Below x.heap.size x w') := fun x => (HQ.out x).mono fun e w' h => by
      rcases h.1 with ⟨h1, _⟩ | ⟨_, sc, h1, h2, h3⟩
      · exact absurd h1 hE
      · exact ⟨sc, h1, h2, h3, h.2⟩
    have hE' : ((eframe s : Int) != 0) = true := by rw [bne_iff_ne]; omega
    generalize eframe s = EE at *
    clear HQ hE
    go_enter Tryd.func12, Tryd.ntmps12
    go_wp2_with (first
      | refine builtSw rfl _ rfl z rfl ?_
      | (have ht := HTOK.out; refine wpList_freshG rfl 38 _ _ rfl (w.heap.size + 1) (size_alloc _ _) (dz z) _ rfl rfl (size38 _ rfl) (by kernel_rfl) (dz_one _) ?_; intro y hy hby; have H1 := Lib.hid (PD.start (by kernel_rfl) hy hby); have x1 := H1.out.free 1; have x2 : y.cell? ⟨w.heap.size + 1, 1, none⟩ = some (.string ⟨#[]⟩) := H1.out.get 1; clear hy hby HTOK ht)
      | refine wpList_load_row rfl 38 _ rfl (w.heap.size + 1) rfl 38 (dz z) (0, 0) _ H1.out.seg Tryd.underlying38 rfl (size38 _ rfl) ?_
      | (go_at_call 38; refine (HY.out _).mono ?_; rintro e w4 ⟨sc, hc1, hc2, rfl, hb⟩; have H2 := Lib.hid (H1.out.frame hb); have HC1 := Lib.hid hc1; have HC2 := Lib.hid hc2; clear hb hc1 hc2 HY H1)
      | (refine wpList_over H2.out rfl HC1.out HC2.out rfl _ _ rfl rfl rfl ?_; intro w5 hp hbt; have H3 := Lib.hid hp; clear hp hbt H2)
      | refine builtS0w rfl rfl ?_
      | (refine wpList_res H3.out rfl (dz_one _) rfl _ _ rfl rfl rfl ?_; intro wf hf hbt hb; have HFF := Lib.hid hf; have HBF := Lib.hid hb; clear hf hbt hb))
    refine bodyPost_ret_by (results_row_tmp rfl _ _ w.heap.size _ rfl (run_loadVar_row _ w.heap.size 38 38 _ (0, 0) _ HFF.out Tryd.underlying38 rfl (size38 _ rfl)) _ rfl) rfl ⟨.inr ⟨HE.out, _, rfl, rfl, dz_one _⟩, HBF.out⟩
/-- The document's segment is this one; its list is the call's own, from block B on. -/
def DV (B : Nat) (z : Int) : PS → Array Value → World → Prop
  | .inl (z', b), cs, _ => z' = z ∧ cs = dsg z b (.slice none 0 0) (.slice none 0 0) 0 0 (.slice none 0 0) (.slice none 0 0) 0 0 0 0 0
  | .inr (.inl l), cs, w => ∃ v, cs = dsg 219 ⟨#[]⟩ v (.slice none 0 0) 0 0 (.slice none 0 0) (.slice none 0 0) 0 0 0 0 0 ∧ OwnR 66 66 cellsQ B v l w
  | .inr (.inr (.inl l)), cs, w => ∃ v, cs = dsg 196 ⟨#[]⟩ (.slice none 0 0) v 0 0 (.slice none 0 0) (.slice none 0 0) 0 0 0 0 0 ∧ OwnR 73 19 cellsH B v l w
  | .inr (.inr (.inr (.inl (z', h, u, l)))), cs, w => ∃ v, z' = z ∧ cs = sg z h u v (.slice none 0 0) 0 0 0 0 ∧ OwnR 79 4 cellsP B v l w
  | .inr (.inr (.inr (.inr (.inl (l, f, t, h, u))))), cs, w => ∃ v, cs = sg 218 0 0 (.slice none 0 0) v f t h u ∧ OwnR 118 3 cellsK B v l w
  | .inr (.inr (.inr (.inr (.inr n)))), cs, _ => cs = dsg 221 ⟨#[]⟩ (.slice none 0 0) (.slice none 0 0) 0 0 (.slice none 0 0) (.slice none 0 0) 0 0 0 0 n
theorem OwnR.qt66 {B : Nat} {v : Value} {l : List (Nat × Nat × (Nat → Nat))} {w : World} (h : OwnR 66 66 quantC B v l w) : OwnR 66 66 cellsQ B v (l.map Go.Proofs.YtfohgocdabgbgaaDoor.qt) w := by
  unfold OwnR at h ⊢
  rw [rowC_map, List.length_map]
  exact h
theorem RP.to {E E' : Nat} {Φ Ψ : Array Value → World → Prop} {w w' : World} {e : Ending} (h : RP E Φ w e w') (hE : E = E') (hΦ : E = 0 → ∀ cs, Φ cs w' → Ψ cs w') : RP E' Ψ w e w' := by
  subst hE
  refine ⟨?_, h.2⟩
  rcases h.1 with ⟨h1, cs, h2, h3⟩ | h1
  · exact .inl ⟨h1, cs, h2, hΦ h1 cs h3⟩
  · exact .inr h1
theorem perr_of {z : Int} {s : ByteArray} {x : PS} {R : Nat × Nat} (h0 : refu z = 0) (hs : s.size ≤ 65533) (hr : rseg z s = (x, R)) : perr z s = (rneed (decide (s.size - R.1 = 0)) 4 R).2 := by
  unfold perr
  rw [if_neg (by omega), if_neg (by omega), hr]
theorem RP.seg {E : Nat} {z : Int} {s : ByteArray} {x : PS} {R : Nat × Nat} {Φ : Array Value → World → Prop} {B : Nat} {w w' : World} {e : Ending} (h : RP E Φ w e w') (h0 : refu z = 0) (hs : s.size ≤ 65533) (hr : rseg z s = (x, R)) (hE : E = (rneed (decide (s.size - R.1 = 0)) 4 R).2) (hΦ : E = 0 → ∀ cs, Φ cs w' → DV B z x cs w') :
    RP (perr z s) (fun cs w' => DV B z (rseg z s).1 cs w') w e w' := by
  refine h.to (by rw [perr_of h0 hs hr]; exact hE) ?_
  intro h1 cs h2
  rw [hr]
  exact hΦ h1 cs h2
section
variable (s : ByteArray)
theorem seg196 : rseg 196 s = (PS.huffs (rall (rhuff s) s (0, 0)).1, (rall (rhuff s) s (0, 0)).2) := if_pos rfl
theorem seg218 : rseg 218 s = (PS.scan (rscan s (0, 0)).1.1 ((rscan s (0, 0)).1.2.1 : Nat) ((rscan s (0, 0)).1.2.2.1 : Nat) ((rscan s (0, 0)).1.2.2.2.1 : Nat) ((rscan s (0, 0)).1.2.2.2.2 : Nat), (rscan s (0, 0)).2) := by unfold rseg; rw [if_neg (by decide), if_pos rfl]
theorem seg219 : rseg 219 s = (PS.quants ((rall (rquant s) s (0, 0)).1.map qt), (rall (rquant s) s (0, 0)).2) := by unfold rseg; rw [if_neg (by decide), if_neg (by decide), if_pos rfl]
theorem seg221 : rseg 221 s = (PS.rest ((rnum s 2 (0, 0)).1 : Nat), (rnum s 2 (0, 0)).2) := by unfold rseg; rw [if_neg (by decide), if_neg (by decide), if_neg (by decide), if_pos rfl]
theorem segF {z : Int} (h1 : 192 ≤ z) (h2 : z ≤ 194) : rseg z s = (PS.frame z ((rframe s (0, 0)).1.1 : Nat) ((rframe s (0, 0)).1.2.1 : Nat) (rframe s (0, 0)).1.2.2, (rframe s (0, 0)).2) := by unfold rseg; rw [if_neg (by omega), if_neg (by omega), if_neg (by omega), if_neg (by omega), if_pos ⟨h1, h2⟩]
theorem segP {z : Int} (h : (224 ≤ z ∧ z ≤ 239) ∨ z = 254) : rseg z s = (PS.plain z s, (s.size, 0)) := by unfold rseg; rw [if_neg (by omega), if_neg (by omega), if_neg (by omega), if_neg (by omega), if_neg (by omega)]
theorem refu_ok {z : Int} (h : okz z) : refu z = 0 := by
  unfold okz at h
  unfold refu
  rw [if_neg (by omega), if_neg (by omega), if_pos h]
theorem DP_196 (hs : s.size ≤ 65533) (w : World) : Calls Tryd.prog 12 #[.int .i64 196, .string s] w fun e w' => RP (perr 196 s) (fun cs w' => DV w.heap.size 196 (rseg 196 s).1 cs w') w e w' :=
  (RP_huffs s w hs).mono fun _ _ h => h.seg (refu_ok (.inl rfl)) hs (seg196 s) (rall_end (rhuff_adv s) (0, 0)).symm fun _ _ h => h
theorem DP_218 (hs : s.size ≤ 65533) (w : World) : Calls Tryd.prog 12 #[.int .i64 218, .string s] w fun e w' => RP (perr 218 s) (fun cs w' => DV w.heap.size 218 (rseg 218 s).1 cs w') w e w' := by
  refine (RP_scan s hs w).mono fun _ _ h => h.seg (refu_ok (.inr (.inl rfl))) hs (seg218 s) ?_ fun _ _ h => h
  unfold escan
  rfl
theorem DP_219 (hs : s.size ≤ 65533) (w : World) : Calls Tryd.prog 12 #[.int .i64 219, .string s] w fun e w' => RP (perr 219 s) (fun cs w' => DV w.heap.size 219 (rseg 219 s).1 cs w') w e w' := by
  refine (RP_quants s w hs).mono fun _ _ h => h.seg (refu_ok (.inr (.inr (.inl rfl)))) hs (seg219 s) (rall_end (rquant_adv s) (0, 0)).symm ?_
  rintro _ _ ⟨v, h1, h2⟩
  exact ⟨v, h1, h2.qt66⟩
theorem DP_221 (hs : s.size ≤ 65533) (w : World) : Calls Tryd.prog 12 #[.int .i64 221, .string s] w fun e w' => RP (perr 221 s) (fun cs w' => DV w.heap.size 221 (rseg 221 s).1 cs w') w e w' := by
  refine (RP_rest s w hs).mono fun _ _ h => h.seg (refu_ok (.inr (.inr (.inr (.inl rfl))))) hs (seg221 s) ?_ ?_
  · by_cases h2 : s.size = 2
    · rw [if_pos h2, rnum_two' (show 0 + 1 < s.size by omega), show decide (s.size - (0 + 2) = 0) = true from decide_eq_true (by omega), rneed_yes]
    · rw [if_neg h2]
      by_cases h3 : s.size < 2
      · rw [rnum_out (show s.size < 0 + 2 by omega) (Nat.zero_le _), rneed_err (by show (4:Nat) ≠ 0; decide)]
      · rw [rnum_two' (show 0 + 1 < s.size by omega), show decide (s.size - (0 + 2) = 0) = false from decide_eq_false (by omega), rneed_no rfl]
  · intro hE cs h1
    have h2 : s.size = 2 := by
      apply Classical.byContradiction
      intro h
      rw [if_neg h] at hE
      cases hE
    have e : ((rnum s 2 (0, 0)).1 : Int) = rby2 s 0 := by
      rw [rnum_two' (show 0 + 1 < s.size by omega)]
      unfold rby2 rby
      rw [if_pos (by omega), dif_pos (show 0 < s.size by omega), dif_pos (show 0 + 1 < s.size by omega)]
      show ((s[0].toNat * 256 + s[1].toNat : Nat) : Int) = (s[0].toNat : Int) * 256 + (s[1].toNat : Int)
      omega
    rw [← e] at h1
    exact h1
theorem DP_frame (hs : s.size ≤ 65533) (w : World) (z : Int) (h1 : 192 ≤ z) (h2 : z ≤ 194) : Calls Tryd.prog 12 #[.int .i64 z, .string s] w fun e w' => RP (perr z s) (fun cs w' => DV w.heap.size z (rseg z s).1 cs w') w e w' := by
  refine (RP_frame z h1 h2 s hs w).mono fun _ _ h => h.seg (refu_ok (.inr (.inr (.inr (.inr (.inr (.inl ⟨h1, h2⟩))))))) hs (segF s h1 h2) ?_ ?_
  · unfold eframe
    rfl
  · rintro _ _ ⟨v, h3, h4⟩
    exact ⟨v, rfl, h3, h4⟩
theorem DP_plain (hs : s.size ≤ 65533) (w : World) (z : Int) (h : (224 ≤ z ∧ z ≤ 239) ∨ z = 254) : Calls Tryd.prog 12 #[.int .i64 z, .string s] w fun e w' => RP (perr z s) (fun cs w' => DV w.heap.size z (rseg z s).1 cs w') w e w' := by
  refine (RP_plain s w z h hs).mono fun _ _ g => g.seg (refu_ok (by unfold okz; omega)) hs (segP s h) ?_ ?_
  · show 0 = (rneed (decide (s.size - s.size = 0)) 4 (s.size, 0)).2
    rw [show decide (s.size - s.size = 0) = true from decide_eq_true (by omega), rneed_yes]
  · intro _ cs h1
    exact ⟨rfl, h1⟩
end
theorem DParse_any (z : Int) (s : ByteArray) (w : World) : Calls Tryd.prog 12 #[.int .i64 z, .string s] w fun e w' => RP (perr z s) (fun cs w' => DV w.heap.size z (rseg z s).1 cs w') w e w' := by
  by_cases h0 : refu z = 0
  · have hok : okz z := by
      unfold refu at h0
      unfold okz
      split at h0
      · cases h0
      · split at h0
        · cases h0
        · split at h0
          · assumption
          · cases h0
    by_cases hs : 65533 < s.size
    · have hp : perr z s = 4 := by unfold perr; rw [if_neg (by omega), if_pos hs]
      rw [hp]
      exact RP_long s w z _ hok hs
    · have hs2 : s.size ≤ 65533 := by omega
      by_cases z1 : z = 196
      · subst z1; exact DP_196 s hs2 w
      by_cases z2 : z = 218
      · subst z2; exact DP_218 s hs2 w
      by_cases z3 : z = 219
      · subst z3; exact DP_219 s hs2 w
      by_cases z4 : z = 221
      · subst z4; exact DP_221 s hs2 w
      by_cases z5 : 192 ≤ z ∧ z ≤ 194
      · exact DP_frame s hs2 w z z5.1 z5.2
      · exact DP_plain s hs2 w z (by unfold okz at hok; omega)
  · have hp : perr z s = refu z := by unfold perr; rw [if_pos h0]
    rw [hp]
    have h3 : refu z = 3 ∨ refu z = 1 ∨ refu z = 6 := by
      unfold refu at h0 ⊢
      split
      · exact .inl rfl
      · split
        · exact .inr (.inl rfl)
        · split
          · rename_i h1 h2 h3
            rw [if_neg h1, if_neg h2, if_pos h3] at h0
            exact absurd rfl h0
          · exact .inr (.inr rfl)
    rcases h3 with h | h | h
    · rw [h]
      refine RP_3 s w z _ ?_
      unfold refu at h
      split at h
      · assumption
      · split at h
        · cases h
        · split at h <;> cases h
    · rw [h]
      have h2 : 208 ≤ z ∧ z ≤ 217 := by
        unfold refu at h
        split at h
        · cases h
        · split at h
          · assumption
          · split at h <;> cases h
      exact RP_1 s w z _ h2.1 h2.2
    · rw [h]
      exact RP_6 s w z _ h
/-! A region that draws its order, of which some operations only read: these may be taken first, in the order of the text; what is left (blocks made, stores into them) keeps the class of worlds in which the reading ones yield their values. -/
/-! A region that draws its order, of which some operations only read: these may be taken first, in the order of the text; what is left (blocks made, stores into them) keeps the class of worlds in which the reading ones yield their values. -/
section
variable {P : Program} {md : Region.Mode} {ops : Array Oper} {C : World → Prop} {Q : Act → World → Prop}

theorem let_false : ¬ LetsOut (fun (_ : Exit) (_ : Act) (_ : World) => False) := fun ⟨_, _, h⟩ => h
/-- An operation that ends no other way. -/
theorem wp_of_mute {o : Oper} {a : Act} {w : World} {K K' : Act → World → Prop} {Q' : Exit → Act → World → Prop} (h : ∀ a w, K a w → K' a w) (hh : o.wp P a w K (fun _ _ _ => False)) : o.wp P a w K' Q' := by
  unfold Oper.wp at *
  generalize (execOp a.eval o).run P w = r at *
  cases r with
  | ok n w' =>
    cases n <;> simp only [Oper.upon] at hh ⊢ <;>
      first
        | exact h _ _ hh
        | exact Calls.mono hh (fun e w'' he => by cases e <;> first | exact h _ _ he | exact he.elim | exact (let_false he).elim)
        | exact Rows.mono hh (fun _ _ he => h _ _ he)
  | halt x w' => cases x <;> simp only [Oper.upon] at hh ⊢ <;> exact hh.elim

/-- One operation comes up, and ends no other way. -/
def mOp (P : Program) (ops : Array Oper) (i : Nat) (K : Act → World → Prop) (a : Act) (w : World) : Prop :=
  match ops[i]? with
  | none => K a w
  | some o => if Region.wanted o (yielded ops a.tmps) then o.wp P a w K (fun _ _ _ => False) else K (a.put o.dst undef) w

theorem mOp_mono {i : Nat} {a : Act} {w : World} {K K' : Act → World → Prop} (h : ∀ a w, K a w → K' a w) (hh : mOp P ops i K a w) : mOp P ops i K' a w := by
  unfold mOp at *
  split
  · exact h _ _ (by simpa [*] using hh)
  · rename_i o ho
    simp only [ho] at hh
    split
    · rename_i hw; simp only [hw, if_true] at hh; exact wp_of_mute h hh
    · rename_i hw; simp only [hw] at hh; exact h _ _ hh

theorem wpOp_of_mOp {i : Nat} {a : Act} {w : World} {K K' : Act → World → Prop} {Q' : Exit → Act → World → Prop} (h : ∀ a w, K a w → K' a w) (hh : mOp P ops i K a w) : wpOp P ops Q' i K' a w := by
  unfold mOp at hh
  unfold wpOp
  split
  · exact h _ _ (by simpa [*] using hh)
  · rename_i o ho
    simp only [ho] at hh
    split
    · rename_i hw; simp only [hw, if_true] at hh; exact .inl (wp_of_mute h hh)
    · rename_i hw; simp only [hw] at hh; exact h _ _ hh

/-- Whatever order is picked from here on: each operation keeps the class. -/
def wpMix (P : Program) (md : Region.Mode) (ops : Array Oper) (C : World → Prop) (Q : Act → World → Prop) : Nat → Array Bool → Act → World → Prop
  | 0, listed, a, w => Region.ready md ops listed = [] ∧ Q a w
  | fuel + 1, listed, a, w =>
    (Region.ready md ops listed = [] → Q a w) ∧
    ∀ i ∈ Region.ready md ops listed, mOp P ops i (fun a' w' => C w' ∧ wpMix P md ops C Q fuel (listed.setIfInBounds i true) a' w') a w

theorem wpAny_of_mix {Q' : Exit → Act → World → Prop} (hQ : ∀ a w, Q a w → Q' .normal a w) : ∀ (fuel : Nat) (listed : Array Bool) (a : Act) (w : World),
    wpMix P md ops C Q fuel listed a w → wpAny P md ops Q' fuel listed a w
  | 0, _, _, _, h => ⟨h.1, hQ _ _ h.2⟩
  | fuel + 1, _, _, _, h => ⟨fun h0 => hQ _ _ (h.1 h0), fun i hi => wpOp_of_mOp (fun a' w' h' => wpAny_of_mix hQ fuel _ a' w' h'.2) (h.2 i hi)⟩

/-- In state 'a', in every world of the class, operation 'o' leaves 'v' in its temporary and the world as it is. -/
def YieldsS (P : Program) (ops : Array Oper) (C : World → Prop) (o : Oper) (v : Value) (a : Act) : Prop :=
  (Region.wanted o (yielded ops a.tmps) = true ∧ ∀ w, C w → (execOp a.eval o).run P w = .ok (.value v) w ∨ ((execOp a.eval o).run P w = .ok .skip w ∧ v = undef)) ∨
  (Region.wanted o (yielded ops a.tmps) = false ∧ v = undef)

theorem YieldsS.of_same {o : Oper} {v : Value} {a a' : Act} (hy : YieldsS P ops C o v a) (he : execOp a'.eval o = execOp a.eval o)
    (hw : Region.wanted o (yielded ops a'.tmps) = Region.wanted o (yielded ops a.tmps)) : YieldsS P ops C o v a' := by
  unfold YieldsS at *
  rw [he, hw]
  exact hy
theorem YieldsS.mOp {i : Nat} {o : Oper} {v : Value} {a : Act} {w : World} (hi : ops[i]? = some o) (hy : YieldsS P ops C o v a) (hC : C w) {K : Act → World → Prop} (h : K (a.put o.dst v) w) : mOp P ops i K a w := by
  unfold Go.Proofs.YtfohgocdabgbgaaDoor.mOp
  simp only [hi]
  rcases hy with ⟨hw, hv⟩ | ⟨hw, rfl⟩
  · simp only [hw, if_true]
    unfold Oper.wp
    rcases hv w hC with h1 | ⟨h1, rfl⟩
    · rw [h1]; exact h
    · rw [h1]; exact h
  · simp only [hw, Bool.false_eq_true, if_false]; exact h

theorem put_defers (a : Act) (x : Option Tmp) (v : Value) (d : Deferred) : ({ a.put x v with defers := d :: (a.put x v).defers } : Act) = ({ a with defers := d :: a.defers } : Act).put x v := by
  cases x <;> rfl
theorem eval_defers (a : Act) (d : List Deferred) : ({ a with defers := d } : Act).eval = a.eval := by
  funext x
  cases x <;> rfl

theorem mOp_put {j : Nat} {oi oj : Oper} {v : Value} (hj : ops[j]? = some oj) (hap : oi.apart ops oj = true)
    (hsi : ∀ cs b, oi.op ≠ .select cs b) (hsj : ∀ cs b, oj.op ≠ .select cs b) {K : Act → World → Prop} {a : Act} {w : World}
    (hy : YieldsS P ops C oi v a) (h : mOp P ops j K (a.put oi.dst v) w) :
    mOp P ops j (fun a' w' => YieldsS P ops C oi v a' ∧ K (a'.put oi.dst v) w') a w := by
  obtain ⟨h1, h2, h3⟩ := Oper.apart_spec hap
  have keep : ∀ (a : Act), YieldsS P ops C oi v a → ∀ u, YieldsS P ops C oi v (a.put oj.dst u) := fun a hy u =>
    hy.of_same (execOp_put oi hsi a oj.dst u h3) (wanted_put oi a oj.dst u h3)
  unfold mOp at *
  simp only [hj] at *
  rw [wanted_put oj a oi.dst v h1] at h
  split
  · rename_i hw
    simp only [hw, if_true] at h
    unfold Oper.wp at *
    rw [execOp_put oj hsj a oi.dst v h1] at h
    generalize (execOp a.eval oj).run P w = r at *
    cases r with
    | ok n w' =>
      cases n <;> simp only [Oper.upon] at h ⊢
      case value u => exact ⟨keep a hy u, by rw [← Act.put_comm a v u h2]; exact h⟩
      case skip => exact ⟨keep a hy _, by rw [← Act.put_comm a v undef h2]; exact h⟩
      case defer d =>
        refine ⟨keep { a with defers := d :: a.defers } (hy.of_same (by rw [eval_defers]) rfl) undef, ?_⟩
        rw [← Act.put_comm _ v undef h2, ← put_defers]
        exact h
      case enter f args =>
        refine Calls.mono h fun e w'' he => ?_
        cases e with
        | returned u => exact ⟨keep a hy u, by rw [← Act.put_comm a v u h2]; exact he⟩
        | panicked c => exact he.elim
        | outgrown => exact (let_false he).elim
      case row row args => exact Rows.mono h fun u w'' he => ⟨keep a hy u, by rw [← Act.put_comm a v u h2]; exact he⟩
      all_goals exact h
    | halt x w' => cases x <;> simp only [Oper.upon] at h ⊢
  · rename_i hw
    simp only [hw] at h
    exact ⟨keep a hy _, by rw [← Act.put_comm a v undef h2]; exact h⟩

/-- A reading operation that may come up now may be taken first. -/
theorem wpMix_first {i : Nat} {oi : Oper} {v : Value} (hi : ops[i]? = some oi) (hsel : ∀ (j : Nat) (o : Oper) cs b, ops[j]? = some o → o.op ≠ .select cs b) :
    ∀ (fuel : Nat) (listed : Array Bool) (a : Act) (w : World),
      (∀ j oj, ops[j]? = some oj → j ≠ i → listed.getD j true = false → (∀ e ∈ oj.after, Region.binds md e = true → e.on ≠ i) → oi.apart ops oj = true) →
      i ∈ Region.ready md ops listed → C w → YieldsS P ops C oi v a →
      wpMix P md ops C Q fuel (listed.setIfInBounds i true) (a.put oi.dst v) w → wpMix P md ops C Q (fuel + 1) listed a w := by
  intro fuel
  induction fuel with
  | zero =>
    intro listed a w _ hr hC hy H
    refine ⟨fun h => (by rw [h] at hr; cases hr), fun j hj => ?_⟩
    by_cases hji : j = i
    · subst hji; exact hy.mOp hi hC ⟨hC, H⟩
    · have := ready_mono hj hji
      rw [H.1] at this
      cases this
  | succ fuel ih =>
    intro listed a w hfree hr hC hy H
    refine ⟨fun h => (by rw [h] at hr; cases hr), fun j hj => ?_⟩
    by_cases hji : j = i
    · subst hji; exact hy.mOp hi hC ⟨hC, H⟩
    · have h1 := H.2 j (ready_mono hj hji)
      obtain ⟨hjun, oj, hoj, hall⟩ := mem_ready.1 hj
      have hnot : ∀ e ∈ oj.after, Region.binds md e = true → e.on ≠ i := fun e he hb heq => by
        have h1 := hall e he hb
        have h0 := (mem_ready.1 hr).1
        rw [heq] at h1
        rcases Nat.lt_or_ge i listed.size with h' | h'
        · simp [h'] at h0 h1; rw [h0] at h1; cases h1
        · simp [Array.getElem?_eq_none h'] at h1
      have h2 := mOp_put hoj (hfree j oj hoj hji hjun hnot) (fun cs b => hsel i oi cs b hi) (fun cs b => hsel j oj cs b hoj) hy h1
      have hfree' : ∀ k ok, ops[k]? = some ok → k ≠ i → (listed.setIfInBounds j true).getD k true = false →
          (∀ e ∈ ok.after, Region.binds md e = true → e.on ≠ i) → oi.apart ops ok = true := fun k ok hk hki hun hno => by
        refine hfree k ok hk hki ?_ hno
        by_cases hjk : j = k
        · subst hjk; exact hjun
        · rw [getD_set_ne true hjk] at hun; exact hun
      refine mOp_mono (fun a' w' h3 => ⟨h3.2.1, ih (listed.setIfInBounds j true) a' w' hfree' (ready_mono hr (Ne.symm hji)) h3.2.1 h3.1 ?_⟩) h2
      rw [Array.setIfInBounds_comm _ _ hji]
      exact h3.2.2

/-- Operations that never enter a function. -/
def noCall : Op → Bool
  | .move _ | .assign _ | .pick .. | .load .. | .build .. | .binOp .. | .unOp .. | .convert .. | .fieldAddr .. | .field .. | .indexAddr .. | .index .. | .extract .. => true
  | _ => false
theorem bind_value {α : Type} (s : Sem α) (g : α → Value) {w w' : World} {f : FuncId} {args : Array Value} : ((do pure (.value (g (← s))) : Sem Next).run P w) ≠ .ok (.enter f args) w' := by
  intro h
  simp only [Sem.run_bind] at h
  cases hs : s.run P w with
  | ok x w1 => rw [hs] at h; simp [Result.andThen, Sem.run_pure] at h
  | halt x w1 => rw [hs] at h; simp [Result.andThen] at h
theorem noCall_enter {o : Oper} (ho : noCall o.op = true) {ρ : Operand → Value} {w w' : World} {f : FuncId} {args : Array Value} : (execOp ρ o).run P w ≠ .ok (.enter f args) w' := by
  unfold execOp
  cases h : o.op <;> rw [h] at ho <;> first | cases ho | skip
  all_goals first
    | exact bind_value _ id
    | exact bind_value _ _
    | (intro h; simp [Sem.run_pure] at h)
theorem yieldsS_of_in {o : Oper} {v : Value} {a : Act} (ho : noCall o.op = true) (h : YieldsIn P ops C o v a) : YieldsS P ops C o v a := by
  rcases h with ⟨hw, h⟩ | h
  · refine .inl ⟨hw, fun w hC => ?_⟩
    have h1 := h w hC
    unfold Oper.quietAt at h1
    cases hr : (execOp a.eval o).run P w with
    | ok n w' =>
      rw [hr] at h1
      cases n <;> simp only [Oper.quietUpon] at h1
      case value u => obtain ⟨rfl, rfl⟩ := h1; exact .inl rfl
      case skip => obtain ⟨rfl, rfl⟩ := h1; exact .inr ⟨rfl, rfl⟩
      case enter f args => exact absurd hr (noCall_enter ho)
    | halt x w' => rw [hr] at h1; simp only [Oper.quietUpon] at h1
  · exact .inr h

/-- The reading ones, by a mask. -/
def qpick : List Bool → List Oper → List Oper
  | true :: m, o :: l => o :: qpick m l
  | false :: m, _ :: l => qpick m l
  | _, _ => []
/-- May they be taken first, in the order of the text? 'k': the place. -/
def mixFrom (md : Region.Mode) (ops : Array Oper) : List Bool → List Oper → Nat → Array Bool → Bool
  | true :: m, o :: l, k, listed => noCall o.op && (Region.ready md ops listed).contains k && Region.free md ops listed k && mixFrom md ops m l (k + 1) (listed.setIfInBounds k true)
  | false :: m, _ :: l, k, listed => mixFrom md ops m l (k + 1) listed
  | _, _, _, _ => true
/-- What has come up then. -/
def mixed (m : List Bool) : List Oper → Nat → Array Bool → Array Bool
  | [], _, listed => listed
  | _ :: l, k, listed => match m with
    | true :: m => mixed m l (k + 1) (listed.setIfInBounds k true)
    | false :: m => mixed m l (k + 1) listed
    | [] => listed
theorem wpMix_lex (hs : Region.noSelect ops = true) {w : World} (hC : C w) (fuel : Nat) : ∀ (l : List Oper) (m : List Bool) (k : Nat) (listed : Array Bool) (a : Act), (∀ j, j < l.length → l[j]? = ops[k + j]?) →
    mixFrom md ops m l k listed = true → wpQuiet P ops C (fun a' => wpMix P md ops C Q fuel (mixed m l k listed) a' w) (qpick m l) a → wpMix P md ops C Q ((qpick m l).length + fuel) listed a w
  | [], m, _, listed, a, _, _, h => by
    have e : ∀ m, qpick m [] = [] := fun m => by cases m with | nil => rfl | cons b m => cases b <;> rfl
    rw [e] at h ⊢
    simp only [List.length_nil, Nat.zero_add]
    simp only [wpQuiet, mixed] at h
    exact h
  | o :: l, [], _, listed, a, _, _, h => by
    simp only [qpick, List.length_nil, Nat.zero_add]
    simp only [qpick, wpQuiet, mixed] at h
    exact h
  | o :: l, false :: m, k, listed, a, hl, hB, h => by
    simp only [qpick] at h ⊢
    exact wpMix_lex hs hC fuel l m (k + 1) listed a (fun j hj => by have := hl (j + 1) (by simpa using hj); simpa [Nat.add_assoc, Nat.add_comm 1 j] using this) hB h
  | o :: l, true :: m, k, listed, a, hl, hB, h => by
    have h0 : ops[k]? = some o := by simpa using (hl 0 (by simp)).symm
    simp only [mixFrom, Bool.and_eq_true] at hB
    obtain ⟨⟨⟨hn, hr⟩, hf⟩, hB'⟩ := hB
    simp only [qpick] at h ⊢
    have hst : qOp P ops C k (wpQuiet P ops C (fun a' => wpMix P md ops C Q fuel (mixed (true :: m) (o :: l) k listed) a' w) (qpick m l)) a := by unfold qOp; simp only [h0]; exact h
    obtain ⟨v, hy, hK⟩ := yieldsIn_of_qOp h0 hst
    have := wpMix_first (Q := Q) h0 (Region.noSelect_spec hs) ((qpick m l).length + fuel) listed a w (Region.free_spec h0 hf) (by simpa using hr) hC (yieldsS_of_in hn hy)
      (wpMix_lex hs hC fuel l m (k + 1) _ _ (fun j hj => by have := hl (j + 1) (by simpa using hj); simpa [Nat.add_assoc, Nat.add_comm 1 j] using this) hB' hK)
    rw [List.length_cons, Nat.add_right_comm]
    exact this
end
/-- The reading operations first, in the order of the text; then the others in any order. -/
theorem wp_region_mix {P : Program} {id : Nat} {Q : Exit → Act → World → Prop} {a : Act} {w : World} {l : List Oper} (C : World → Prop) (m : List Bool) (fuel : Nat) (hm : P.follows .mixedOrders = true)
    (hB : (Region.noSelect l.toArray && mixFrom .any l.toArray m l 0 (Array.replicate l.length false) && decide ((qpick m l).length + fuel = l.length)) = true) (hC : C w.drew)
    (h : wpQuiet P l.toArray C (fun a' => wpMix P .any l.toArray C (fun a w => Q .normal a w) fuel (mixed m l 0 (Array.replicate l.length false)) a' w.drew) (qpick m l) a) : (Code.region id l.toArray true).wp P Q a w := by
  simp only [Bool.and_eq_true, decide_eq_true_eq] at hB
  obtain ⟨⟨h1, h2⟩, h3⟩ := hB
  refine wp_region_any hm ?_
  have := wpMix_lex (P := P) (C := C) (Q := fun a w => Q .normal a w) h1 hC fuel l m 0 (Array.replicate l.length false) a (by simp) h2 h
  rw [h3] at this
  have h4 := wpAny_of_mix (Q' := Q) (fun _ _ h => h) _ _ _ _ this
  simpa using h4
/-! Two variables of structs made and filled in one statement ('x, y := f[i], g[i]') in a region that draws its order: whatever the order, two new blocks, filled. -/
section
variable {P : Program} {md : Region.Mode} {ops : Array Oper} {C : World → Prop} {Q : Act → World → Prop}
theorem mOp_of {i : Nat} {o : Oper} {K : Act → World → Prop} {a : Act} {w : World} (ho : ops[i]? = some o) (hg : o.guard = none) (h : o.wp P a w K (fun _ _ _ => False)) : mOp P ops i K a w := by
  have hw : Region.wanted o (yielded ops a.tmps) = true := by simp [Region.wanted, hg]
  unfold mOp
  simp only [ho, hw, if_true]
  exact h
theorem wp_alloc_cells {o : Oper} {K : Act → World → Prop} {a : Act} {w : World} {Q' : Exit → Act → World → Prop} (t : TypeId) (Z : Array Value) (ho : o.op = .alloc t) (hz : (P.info? t).map (fun i => (i.zero, i.size)) = some (some (.agg Z), Z.size))
    (h : K (a.put o.dst (.pointer (some ⟨w.heap.size, 0, none⟩))) (w.alloc (.cells Z t))) : o.wp P a w K Q' := by
  have h1 := (zero_of_info hz).1
  unfold Oper.wp
  simp [execOp, ho, Instr.alloc, h1, go_sem]
  exact h
/-- Whatever order the two blocks are made and filled in. -/
def bxOk (md : Region.Mode) (ops : Array Oper) (i1 j1 i2 j2 : Nat) : Nat → Nat → Nat → Array Bool → Bool
  | 0, x1, x2, listed => (Region.ready md ops listed).isEmpty && decide (x1 = 2) && decide (x2 = 2)
  | fuel + 1, x1, x2, listed => !(Region.ready md ops listed).isEmpty && (Region.ready md ops listed).all (fun i =>
      (decide (x1 = 0) && decide (i = i1) && bxOk md ops i1 j1 i2 j2 fuel 1 x2 (listed.setIfInBounds i true)) || (decide (x1 = 1) && decide (i = j1) && bxOk md ops i1 j1 i2 j2 fuel 2 x2 (listed.setIfInBounds i true)) ||
      (decide (x2 = 0) && decide (i = i2) && bxOk md ops i1 j1 i2 j2 fuel x1 1 (listed.setIfInBounds i true)) || (decide (x2 = 1) && decide (i = j2) && bxOk md ops i1 j1 i2 j2 fuel x1 2 (listed.setIfInBounds i true)))
/-- The two pointers, as far as there are. -/
def bxAct (a : Act) (d1 d2 : Tmp) (x1 x2 g1 g2 : Nat) : Act :=
  let b := if x1 = 0 then a else a.put (some d1) (.pointer (some ⟨g1, 0, none⟩))
  if x2 = 0 then b else b.put (some d2) (.pointer (some ⟨g2, 0, none⟩))
theorem eval_put_ne (a : Act) (d y : Tmp) (v : Value) (h : d ≠ y) : (a.put (some d) v).eval (.tmp y) = a.eval (.tmp y) := by
  simp [Act.put, Act.eval, Array.getElem?_setIfInBounds_ne h]
theorem eval_put_eq (a : Act) (d : Tmp) (v : Value) (h : d < a.tmps.size) : (a.put (some d) v).eval (.tmp d) = v := by
  simp [Act.put, Act.eval, h]
theorem put_size (a : Act) (d : Option Tmp) (v : Value) : (a.put d v).tmps.size = a.tmps.size := by
  cases d <;> simp [Act.put]
theorem put_two (a : Act) (d : Tmp) (u v : Value) : (a.put (some d) u).put (some d) v = a.put (some d) v := by
  simp [Act.put]
section
variable {a : Act} {d1 d2 : Tmp} {x1 x2 g1 g2 : Nat}
theorem bx_y {y : Tmp} (h1 : d1 ≠ y) (h2 : d2 ≠ y) : (bxAct a d1 d2 x1 x2 g1 g2).eval (.tmp y) = a.eval (.tmp y) := by
  unfold bxAct
  by_cases e1 : x1 = 0 <;> by_cases e2 : x2 = 0 <;> simp only [e1, e2, if_true, if_false]
  · exact eval_put_ne _ _ _ _ h2
  · exact eval_put_ne _ _ _ _ h1
  · rw [eval_put_ne _ _ _ _ h2, eval_put_ne _ _ _ _ h1]
theorem bx_1 (hne : d1 ≠ d2) (hd : d1 < a.tmps.size) (hx : x1 ≠ 0) : (bxAct a d1 d2 x1 x2 g1 g2).eval (.tmp d1) = .pointer (some ⟨g1, 0, none⟩) := by
  unfold bxAct
  by_cases e2 : x2 = 0 <;> simp only [hx, e2, if_true, if_false]
  · exact eval_put_eq _ _ _ hd
  · rw [eval_put_ne _ _ _ _ hne.symm, eval_put_eq _ _ _ hd]
theorem bx_2 (hd : d2 < a.tmps.size) (hx : x2 ≠ 0) : (bxAct a d1 d2 x1 x2 g1 g2).eval (.tmp d2) = .pointer (some ⟨g2, 0, none⟩) := by
  unfold bxAct
  simp only [hx, if_false]
  refine eval_put_eq _ _ _ ?_
  split
  · exact hd
  · rw [put_size]; exact hd
theorem bx_put1 (hne : d1 ≠ d2) (g : Nat) (hx : x1 = 0) : (bxAct a d1 d2 x1 x2 g1 g2).put (some d1) (.pointer (some ⟨g, 0, none⟩)) = bxAct a d1 d2 1 x2 g g2 := by
  unfold bxAct
  by_cases e2 : x2 = 0 <;> simp only [hx, e2, if_true, if_false, Nat.one_ne_zero]
  exact Act.put_comm _ _ _ (fun d h1 h2 => hne (by injection h1 with h1; injection h2 with h2; rw [h1, h2]))
theorem bx_put2 (g : Nat) (hx : x2 = 0) : (bxAct a d1 d2 x1 x2 g1 g2).put (some d2) (.pointer (some ⟨g, 0, none⟩)) = bxAct a d1 d2 x1 1 g1 g := by
  unfold bxAct
  simp only [hx, if_true, if_false, Nat.one_ne_zero]
end
structure BxI (base : Nat) (w0 : World) (Z1 S1 Z2 S2 : Array Value) (t1 t2 : TypeId) (x1 x2 g1 g2 : Nat) (w : World) : Prop where
  b1 : x1 ≠ 0 → base ≤ g1 ∧ w.heap[g1]? = some (.cells (if x1 = 1 then Z1 else S1) t1 (0, 0))
  b2 : x2 ≠ 0 → base ≤ g2 ∧ w.heap[g2]? = some (.cells (if x2 = 1 then Z2 else S2) t2 (0, 0))
  ne : x1 ≠ 0 → x2 ≠ 0 → g1 ≠ g2
  low : Below base w0 w
theorem lt_of_heap {w : World} {g : Nat} {o : Obj} (h : w.heap[g]? = some o) : g < w.heap.size := (Array.getElem?_eq_some_iff.1 h).1
theorem heap_alloc_old {w : World} {g : Nat} {o : Obj} (h : w.heap[g]? = some o) (o' : Obj) : (w.alloc o').heap[g]? = some o := by
  rw [(below_new w o').block g (lt_of_heap h)]
  exact h
theorem mix_boxes {i1 j1 i2 j2 : Nat} {o1 s1 o2 s2 : Oper} {t1 t2 : TypeId} {d1 d2 y1 y2 : Tmp} {Z1 S1 Z2 S2 : Array Value} {a : Act} {w0 : World} {base : Nat}
    (h : ops[i1]? = some o1 ∧ ops[j1]? = some s1 ∧ ops[i2]? = some o2 ∧ ops[j2]? = some s2) (p : o1.op = .alloc t1 ∧ s1.op = .store t1 (.tmp d1) (.tmp y1) ∧ o2.op = .alloc t2 ∧ s2.op = .store t2 (.tmp d2) (.tmp y2))
    (g : o1.guard = none ∧ s1.guard = none ∧ o2.guard = none ∧ s2.guard = none) (e : o1.dst = some d1 ∧ s1.dst = none ∧ o2.dst = some d2 ∧ s2.dst = none)
    (n : d1 ≠ d2 ∧ d1 ≠ y1 ∧ d2 ≠ y1 ∧ d1 ≠ y2 ∧ d2 ≠ y2) (hd : d1 < a.tmps.size ∧ d2 < a.tmps.size) (hv : a.eval (.tmp y1) = .agg S1 ∧ a.eval (.tmp y2) = .agg S2)
    (hz1 : (P.info? t1).map (fun i => (i.zero, i.size)) = some (some (.agg Z1), Z1.size)) (hz2 : (P.info? t2).map (fun i => (i.zero, i.size)) = some (some (.agg Z2), Z2.size))
    (hs : Z1.size = S1.size ∧ Z2.size = S2.size) (hc : S1.all (·.oneCell') = true ∧ S2.all (·.oneCell') = true) (hC : ∀ w', Below base w0 w' → C w')
    (hfin : ∀ g1 g2 w', base ≤ g1 → base ≤ g2 → g1 ≠ g2 → w'.heap[g1]? = some (.cells S1 t1 (0, 0)) → w'.heap[g2]? = some (.cells S2 t2 (0, 0)) → Below base w0 w' → Q ((a.put (some d1) (.pointer (some ⟨g1, 0, none⟩))).put (some d2) (.pointer (some ⟨g2, 0, none⟩))) w') :
    ∀ (fuel x1 x2 : Nat) (listed : Array Bool) (g1 g2 : Nat) (w : World), bxOk md ops i1 j1 i2 j2 fuel x1 x2 listed = true → base ≤ w.heap.size → BxI base w0 Z1 S1 Z2 S2 t1 t2 x1 x2 g1 g2 w → wpMix P md ops C Q fuel listed (bxAct a d1 d2 x1 x2 g1 g2) w := by
  obtain ⟨h1, h2, h3, h4⟩ := h
  obtain ⟨p1, p2, p3, p4⟩ := p
  obtain ⟨q1, q2, q3, q4⟩ := g
  obtain ⟨e1, e2, e3, e4⟩ := e
  obtain ⟨n1, n2, n3, n4, n5⟩ := n
  have hi1 := (zero_of_info hz1).2
  have hi2 := (zero_of_info hz2).2
  rw [hs.1] at hi1
  rw [hs.2] at hi2
  intro fuel
  induction fuel with
  | zero =>
    intro x1 x2 listed g1 g2 w hB _ hI
    simp only [bxOk, Bool.and_eq_true, List.isEmpty_iff, decide_eq_true_eq] at hB
    obtain ⟨⟨hr, rfl⟩, rfl⟩ := hB
    exact ⟨hr, hfin g1 g2 w (hI.b1 (by omega)).1 (hI.b2 (by omega)).1 (hI.ne (by omega) (by omega)) (hI.b1 (by omega)).2 (hI.b2 (by omega)).2 hI.low⟩
  | succ fuel ih =>
    intro x1 x2 listed g1 g2 w hB hw hI
    simp only [bxOk, Bool.and_eq_true, List.all_eq_true, Bool.or_eq_true, decide_eq_true_eq, Bool.not_eq_true'] at hB
    refine ⟨fun hr => by rw [hr] at hB; simp at hB, fun i hi => ?_⟩
    rcases hB.2 i hi with ((⟨⟨rfl, rfl⟩, hB'⟩ | ⟨⟨rfl, rfl⟩, hB'⟩) | ⟨⟨rfl, rfl⟩, hB'⟩) | ⟨⟨rfl, rfl⟩, hB'⟩
    · refine mOp_of h1 q1 (wp_alloc_cells t1 Z1 p1 hz1 ?_)
      have hb : Below base w0 (w.alloc (.cells Z1 t1)) := hI.low.alloc hw _
      refine ⟨hC _ hb, ?_⟩
      rw [e1, bx_put1 n1 _ rfl]
      exact ih 1 x2 _ _ g2 _ hB' (by rw [size_alloc]; omega) ⟨fun _ => ⟨hw, heap_alloc_new _ _⟩, fun hx => ⟨(hI.b2 hx).1, heap_alloc_old (hI.b2 hx).2 _⟩, fun _ hx => Nat.ne_of_gt (lt_of_heap (hI.b2 hx).2), hb⟩
    · have hb1 := hI.b1 (by omega)
      refine mOp_of h2 q2 (wp_store_row t1 _ _ p2 g1 S1 (bx_1 n1 hd.1 (by omega)) ((bx_y n2 n3).trans hv.1) t1 Z1 hb1.2 hi1 hs.1 hc.1 ?_)
      have hb : Below base w0 (w.setRow g1 S1) := below_setRow hI.low hb1.1 _
      refine ⟨hC _ hb, ?_⟩
      rw [e2]
      refine ih 2 x2 _ g1 g2 _ hB' (by rw [setRow_size]; exact hw) ⟨fun _ => ⟨hb1.1, setRow_heap _ _ _ _ _ _ hb1.2⟩, fun hx => ⟨(hI.b2 hx).1, ?_⟩, fun _ hx => hI.ne (by omega) hx, hb⟩
      rw [setRow_other _ _ _ _ (fun h => hI.ne (by omega) hx h.symm)]
      exact (hI.b2 hx).2
    · refine mOp_of h3 q3 (wp_alloc_cells t2 Z2 p3 hz2 ?_)
      have hb : Below base w0 (w.alloc (.cells Z2 t2)) := hI.low.alloc hw _
      refine ⟨hC _ hb, ?_⟩
      rw [e3, bx_put2 _ rfl]
      exact ih x1 1 _ g1 _ _ hB' (by rw [size_alloc]; omega) ⟨fun hx => ⟨(hI.b1 hx).1, heap_alloc_old (hI.b1 hx).2 _⟩, fun _ => ⟨hw, heap_alloc_new _ _⟩, fun hx _ => Nat.ne_of_lt (lt_of_heap (hI.b1 hx).2), hb⟩
    · have hb2 := hI.b2 (by omega)
      refine mOp_of h4 q4 (wp_store_row t2 _ _ p4 g2 S2 (bx_2 hd.2 (by omega)) ((bx_y n4 n5).trans hv.2) t2 Z2 hb2.2 hi2 hs.2 hc.2 ?_)
      have hb : Below base w0 (w.setRow g2 S2) := below_setRow hI.low hb2.1 _
      refine ⟨hC _ hb, ?_⟩
      rw [e4]
      refine ih x1 2 _ g1 g2 _ hB' (by rw [setRow_size]; exact hw) ⟨fun hx => ⟨(hI.b1 hx).1, ?_⟩, fun _ => ⟨hb2.1, setRow_heap _ _ _ _ _ _ hb2.2⟩, fun hx _ => hI.ne hx (by omega), hb⟩
      rw [setRow_other _ _ _ _ (fun h => hI.ne hx (by omega) h)]
      exact (hI.b1 hx).2
/-- From the beginning on. -/
theorem mix_two {i1 j1 i2 j2 : Nat} {o1 s1 o2 s2 : Oper} {t1 t2 : TypeId} {d1 d2 y1 y2 : Tmp} {listed : Array Bool} {Z1 Z2 : Array Value} (S1 S2 : Array Value) {a : Act} {w : World}
    (h : ops[i1]? = some o1 ∧ ops[j1]? = some s1 ∧ ops[i2]? = some o2 ∧ ops[j2]? = some s2) (p : o1.op = .alloc t1 ∧ s1.op = .store t1 (.tmp d1) (.tmp y1) ∧ o2.op = .alloc t2 ∧ s2.op = .store t2 (.tmp d2) (.tmp y2))
    (g : o1.guard = none ∧ s1.guard = none ∧ o2.guard = none ∧ s2.guard = none) (e : o1.dst = some d1 ∧ s1.dst = none ∧ o2.dst = some d2 ∧ s2.dst = none)
    (n : d1 ≠ d2 ∧ d1 ≠ y1 ∧ d2 ≠ y1 ∧ d1 ≠ y2 ∧ d2 ≠ y2) (hB : bxOk md ops i1 j1 i2 j2 4 0 0 listed = true) (hd : d1 < a.tmps.size ∧ d2 < a.tmps.size) (hv : a.eval (.tmp y1) = .agg S1 ∧ a.eval (.tmp y2) = .agg S2)
    (hz1 : (P.info? t1).map (fun i => (i.zero, i.size)) = some (some (.agg Z1), Z1.size)) (hz2 : (P.info? t2).map (fun i => (i.zero, i.size)) = some (some (.agg Z2), Z2.size))
    (hs : Z1.size = S1.size ∧ Z2.size = S2.size) (hc : S1.all (·.oneCell') = true ∧ S2.all (·.oneCell') = true) (hC : ∀ w', Below w.heap.size w w' → C w')
    (hfin : ∀ g1 g2 w', w.heap.size ≤ g1 → w.heap.size ≤ g2 → g1 ≠ g2 → w'.heap[g1]? = some (.cells S1 t1 (0, 0)) → w'.heap[g2]? = some (.cells S2 t2 (0, 0)) → Below w.heap.size w w' → Q ((a.put (some d1) (.pointer (some ⟨g1, 0, none⟩))).put (some d2) (.pointer (some ⟨g2, 0, none⟩))) w') :
    wpMix P md ops C Q 4 listed a w :=
  mix_boxes h p g e n hd hv hz1 hz2 hs hc hC hfin 4 0 0 listed 0 0 w hB (Nat.le_refl _) ⟨fun h => absurd rfl h, fun h => absurd rfl h, fun h => absurd rfl h, Below.refl _ _⟩
end
/-- A later world. -/
structure Bel (w : World) where
  W : World
  h : Below w.heap.size w W
theorem nonempty_bel (w : World) : Nonempty (Bel w) := ⟨⟨w, Below.refl _ _⟩⟩
/-! Whether a segment is the document's: plain segments, restarts. -/
/-- The document's segment lies in the block that is made first. -/
structure XB (cs : Array Value) (w wr : World) : Prop where
  seg : wr.heap[w.heap.size]? = some (.cells cs 38 (0, 0))
  low : Below w.heap.size w wr
theorem XB.start (cs : Array Value) (w : World) : XB cs w (w.alloc (.cells cs 38)) := ⟨heap_alloc_new _ _, below_new _ _⟩
theorem XB.frame {cs : Array Value} {w wr w' : World} (h : XB cs w wr) (hb : Below wr.heap.size wr w') : XB cs w w' := ⟨by rw [hb.block _ (Array.getElem?_eq_some_iff.1 h.seg).1]; exact h.seg, h.low.trans (hb.mono h.low.size)⟩
theorem XB.get {cs : Array Value} {w wr : World} (h : XB cs w wr) (i : Nat) : wr.cell? ⟨w.heap.size, i, none⟩ = cs[i]? := cell_of_row wr _ i _ 38 (0, 0) h.seg
set_option maxRecDepth 100000 in
set_option maxHeartbeats 4000000 in
theorem same_plain (z : Int) (s : ByteArray) (hz : 224 ≤ z) (w : World) :
    Calls Tryd.prog 13 #[.iface 98 (.agg #[.int .i64 z, .string s]), .agg (dsg z s (.slice none 0 0) (.slice none 0 0) 0 0 (.slice none 0 0) (.slice none 0 0) 0 0 0 0 0)] w fun e w' => e = .returned (.bool true) ∧ Below w.heap.size w w' := by
  have HTOK := Lib.hid trivial
  have A98 := fun w => assert_yes (T := 98) Tryd.underlying98 rfl (.agg #[.int .i64 z, .string s]) w
  have b1 : (z == z) = true := by simp
  go_enter Tryd.func13, Tryd.ntmps13
  go_wp2_with (have ht := HTOK.out; refine wpList_freshG rfl 98 _ _ rfl (w.heap.size + 1) (size_alloc _ _) #[.int .i64 z, .string s] _ rfl rfl (by kernel_rfl) rfl (by simp; exact ⟨rfl, rfl⟩) ?_; intro y hy hby; have HX := Lib.hid ((XB.start _ w).frame hby); have x0 : y.cell? ⟨w.heap.size, 0, none⟩ = some (.int .i64 z) := HX.out.get 0; have x1 : y.cell? ⟨w.heap.size, 1, none⟩ = some (.string s) := HX.out.get 1; rw [size_alloc] at hy; have y0 : y.cell? ⟨w.heap.size + 1, 0, none⟩ = some (.int .i64 z) := Lib.cell_of_heap hy 0; have y1 : y.cell? ⟨w.heap.size + 1, 1, none⟩ = some (.string s) := Lib.cell_of_heap hy 1; clear hy hby HTOK ht)
  go_ret
  exact ⟨rfl, HX.out.low⟩
set_option maxRecDepth 100000 in
set_option maxHeartbeats 4000000 in
theorem same_rest (n : Int) (w : World) :
    Calls Tryd.prog 13 #[.iface 76 (.agg #[.int .i64 n]), .agg (dsg 221 ⟨#[]⟩ (.slice none 0 0) (.slice none 0 0) 0 0 (.slice none 0 0) (.slice none 0 0) 0 0 0 0 n)] w fun e w' => e = .returned (.bool true) ∧ Below w.heap.size w w' := by
  have HTOK := Lib.hid trivial
  have A98 := fun w => no98 (t := 76) (by decide) (.agg #[.int .i64 n]) w
  have A62 := fun w => no62 (t := 76) (by decide) (.agg #[.int .i64 n]) w
  have A70 := fun w => no70 (t := 76) (by decide) (.agg #[.int .i64 n]) w
  have A44 := fun w => no44 (t := 76) (by decide) (.agg #[.int .i64 n]) w
  have A49 := fun w => no49 (t := 76) (by decide) (.agg #[.int .i64 n]) w
  have A76 := fun w => assert_yes (T := 76) Tryd.underlying76 rfl (.agg #[.int .i64 n]) w
  have b1 : (n == n) = true := by simp
  go_enter Tryd.func13, Tryd.ntmps13
  go_wp2_with (have ht := HTOK.out; refine wpList_freshG rfl 76 _ _ rfl (w.heap.size + 1) (size_alloc _ _) #[.int .i64 n] _ rfl rfl (by kernel_rfl) rfl (by simp; rfl) ?_; intro y hy hby; have HX := Lib.hid ((XB.start _ w).frame hby); have x0 : y.cell? ⟨w.heap.size, 0, none⟩ = some (.int .i64 221) := HX.out.get 0; have x1 : y.cell? ⟨w.heap.size, 12, none⟩ = some (.int .i64 n) := HX.out.get 12; rw [size_alloc] at hy; have y0 : y.cell? ⟨w.heap.size + 1, 0, none⟩ = some (.int .i64 n) := Lib.cell_of_heap hy 0; clear hy hby HTOK ht)
  go_ret
  exact ⟨rfl, HX.out.low⟩
/-! Whether a segment is the document's: a frame's beginning. -/
theorem size79S (x : PT) : (Tryd.prog.info? 79).map (·.size) = some (cellsP x).size := by
  show _ = some 4
  kernel_rfl
theorem zero79 : (Tryd.prog.info? 79).map (fun i => (i.zero, i.size)) = some (some (.agg (cellsP (0, 0, 0, 0))), (cellsP (0, 0, 0, 0)).size) := by kernel_rfl
theorem zero80 : (Tryd.prog.info? 80).map (fun i => (i.zero, i.size)) = some (some (.agg (cellsP (0, 0, 0, 0))), (cellsP (0, 0, 0, 0)).size) := by kernel_rfl
set_option maxRecDepth 100000 in
set_option maxHeartbeats 4000000 in
theorem same_frame (z H U : Int) (hz : z ≤ 194) (v u : Value) (l : List PT) (hl : l.length ≤ 1000000) (w : World) (hv : RowV 4 cellsP v l w) (hu : RowV 4 cellsP u l w) :
    Calls Tryd.prog 13 #[.iface 44 (.agg #[.int .i64 z, .int .i64 H, .int .i64 U, v]), .agg (dsg z ⟨#[]⟩ (.slice none 0 0) (.slice none 0 0) H U u (.slice none 0 0) 0 0 0 0 0)] w fun e w' => e = .returned (.bool true) ∧ Below w.heap.size w w' := by
  have HTOK := Lib.hid trivial
  obtain ⟨p, m, c, rfl, hm⟩ := hv.shape
  obtain ⟨p', m', c', rfl, hm'⟩ := hu.shape
  obtain rfl : m' = m := hm'.out.trans hm.out.symm
  have HV := Lib.hid hv
  have HU := Lib.hid hu
  have hml : m' ≤ 1000000 := by rw [hm.out]; exact hl
  have HM := Lib.hid hm.out
  have A98 := fun w => no98 (t := 44) (by decide) (.agg #[.int .i64 z, .int .i64 H, .int .i64 U, .slice p m' c]) w
  have A62 := fun w => no62 (t := 44) (by decide) (.agg #[.int .i64 z, .int .i64 H, .int .i64 U, .slice p m' c]) w
  have A70 := fun w => no70 (t := 44) (by decide) (.agg #[.int .i64 z, .int .i64 H, .int .i64 U, .slice p m' c]) w
  have A44 := fun w => assert_yes (T := 44) Tryd.underlying44 rfl (.agg #[.int .i64 z, .int .i64 H, .int .i64 U, .slice p m' c]) w
  have b1 : (z != z) = false := by simp
  have b2 : (H != H) = false := by simp
  have b3 : (U != U) = false := by simp
  have b4 : ((m' : Int) != (m' : Int)) = false := by simp
  have b5 : ¬ 194 < z := by omega
  clear hv hu hl hz hm'
  go_enter Tryd.func13, Tryd.ntmps13
  go_wp2_with (have ht := HTOK.out; refine wpList_freshG rfl 44 _ _ rfl (w.heap.size + 1) (size_alloc _ _) #[.int .i64 z, .int .i64 H, .int .i64 U, .slice p m' c] _ rfl rfl (by kernel_rfl) rfl (by simp; exact ⟨rfl, rfl, rfl, rfl⟩) ?_; intro y hy hby; have HX := Lib.hid ((XB.start _ w).frame hby); have x0 : y.cell? ⟨w.heap.size, 0, none⟩ = some (.int .i64 z) := HX.out.get 0; have x4 : y.cell? ⟨w.heap.size, 4, none⟩ = some (.int .i64 H) := HX.out.get 4; have x5 : y.cell? ⟨w.heap.size, 5, none⟩ = some (.int .i64 U) := HX.out.get 5; have x6 : y.cell? ⟨w.heap.size, 6, none⟩ = some (.slice p' m' c') := HX.out.get 6; rw [size_alloc] at hy; have HYB := Lib.hid hy; have y0 : y.cell? ⟨w.heap.size + 1, 0, none⟩ = some (.int .i64 z) := Lib.cell_of_heap hy 0; have y1 : y.cell? ⟨w.heap.size + 1, 1, none⟩ = some (.int .i64 H) := Lib.cell_of_heap hy 1; have y2 : y.cell? ⟨w.heap.size + 1, 2, none⟩ = some (.int .i64 U) := Lib.cell_of_heap hy 2; have y3 : y.cell? ⟨w.heap.size + 1, 3, none⟩ = some (.slice p m' c) := Lib.cell_of_heap hy 3; clear hy hby HTOK ht)
  go_loopw [13] (fun i wr => ∃ j : Nat, i = .int .i64 j ∧ j ≤ m' ∧ Below y.heap.size y wr) (fun i _ => m' - (intOf i).toNat)
  case atStart => exact ⟨0, rfl, Nat.zero_le _, Below.refl _ _⟩
  case round =>
    obtain ⟨j, rfl, hj, hB⟩ := hrel
    have HB := Lib.hid hB
    have X := HX.out.frame hB
    have Y := hB.block _ (Array.getElem?_eq_some_iff.1 HYB.out).1
    rw [HYB.out] at Y
    have z6 : wr.cell? ⟨w.heap.size, 6, none⟩ = some (.slice p' m' c') := X.get 6
    have z3 : wr.cell? ⟨w.heap.size + 1, 3, none⟩ = some (.slice p m' c) := Lib.cell_of_heap Y 3
    have hBB : Below w.heap.size w wr := HX.out.low.trans (hB.mono HX.out.low.size)
    have HBB := Lib.hid hBB
    clear hB X Y x0 x4 x5 x6 y0 y1 y2 y3
    by_cases hlt : j < m'
    · have hjl : j < l.length := by rw [← HM.out]; exact hlt
      obtain ⟨b, o, d, hvv, _, hc⟩ := (HV.out.on cellsP_size hBB).lies (by omega)
      obtain ⟨b', o', d', hvv', _, hc'⟩ := (HU.out.on cellsP_size hBB).lies (by omega)
      simp only [Value.slice.injEq] at hvv hvv'
      obtain ⟨rfl, hy1, rfl⟩ := hvv
      obtain ⟨rfl, hy3, rfl⟩ := hvv'
      obtain ⟨q0, q1, q2, q3⟩ := part_cells hc hjl
      obtain ⟨r0, r1, r2, r3⟩ := part_cells hc' hjl
      generalize l[j].1 = n0 at *
      generalize l[j].2.1 = n1 at *
      generalize l[j].2.2.1 = n2 at *
      generalize l[j].2.2.2 = n3 at *
      have e0 : (n0 != n0) = false := by simp
      have e1 : (n1 != n1) = false := by simp
      have e2 : (n2 != n2) = false := by simp
      have e3 : (n3 != n3) = false := by simp
      have hjm : (j : Int) < (m' : Int) := by omega
      clear hc hc' hy1 hy3 hjl hBB
      have l6 : ∀ x : Bel wr, x.W.cell? ⟨w.heap.size, 6, none⟩ = some (.slice (some ⟨b', o', none⟩) m' c') := fun x => cell_below z6 x.h
      have l3 : ∀ x : Bel wr, x.W.cell? ⟨w.heap.size + 1, 3, none⟩ = some (.slice (some ⟨b, o, none⟩) m' c) := fun x => cell_below z3 x.h
      have HL1 : Hid (∀ W', (∃ x : Bel wr, W' = x.W) → ∀ k, k < (cellsP (n0, n1, n2, n3)).size → W'.cell? ⟨b, o + j * 4 + k, none⟩ = (cellsP (n0, n1, n2, n3))[k]?) := by
        rintro _ ⟨x, rfl⟩ k hk
        rw [cellsP_size] at hk
        rcases (by omega : k = 0 ∨ k = 1 ∨ k = 2 ∨ k = 3) with rfl | rfl | rfl | rfl
        · exact cell_below q0 x.h
        · exact cell_below q1 x.h
        · exact cell_below q2 x.h
        · exact cell_below q3 x.h
      have HL2 : Hid (∀ W', (∃ x : Bel wr, W' = x.W) → ∀ k, k < (cellsP (n0, n1, n2, n3)).size → W'.cell? ⟨b', o' + j * 4 + k, none⟩ = (cellsP (n0, n1, n2, n3))[k]?) := by
        rintro _ ⟨x, rfl⟩ k hk
        rw [cellsP_size] at hk
        rcases (by omega : k = 0 ∨ k = 1 ∨ k = 2 ∨ k = 3) with rfl | rfl | rfl | rfl
        · exact cell_below r0 x.h
        · exact cell_below r1 x.h
        · exact cell_below r2 x.h
        · exact cell_below r3 x.h
      clear q0 q1 q2 q3 r0 r1 r2 r3
      go_wp2
      have hnb := nonempty_bel
      refine wp_region_mix (fun W' => ∃ x : Bel wr, W' = x.W) [true, true, true, true, true, true, true, true, true, true, false, false, false, false] 4 (by kernel_rfl) (by kernel_rfl) ⟨⟨_, (Below.refl _ _).drew⟩, rfl⟩ ?_
      dsimp only [qpick]
      repeat (first
        | refine wpQuiet_load_at 80 _ rfl (by rfl) Tryd.underlying80 rfl b (o + j * 4) rfl (cellsP (n0, n1, n2, n3)) (size80P _) HL1.out ?_
        | refine wpQuiet_load_at 79 _ rfl (by rfl) Tryd.underlying79 rfl b' (o' + j * 4) rfl (cellsP (n0, n1, n2, n3)) (size79S _) HL2.out ?_
        | quiet_step (fail))
      refine wpQuiet_nil ?_
      refine mix_two (i1 := 10) (j1 := 12) (i2 := 11) (j2 := 13) (cellsP (n0, n1, n2, n3)) (cellsP (n0, n1, n2, n3)) ⟨rfl, rfl, rfl, rfl⟩ ⟨rfl, rfl, rfl, rfl⟩ ⟨rfl, rfl, rfl, rfl⟩ ⟨rfl, rfl, rfl, rfl⟩ (by decide) (by kernel_rfl) ?_ ?_ zero80 zero79 ⟨rfl, rfl⟩ ⟨cellsP_one _, cellsP_one _⟩ ?_ ?_
      · exact ⟨of_decide_eq_true (by kernel_rfl), of_decide_eq_true (by kernel_rfl)⟩
      · exact ⟨by kernel_rfl, by kernel_rfl⟩
      · exact fun w' hb => ⟨⟨w', (Below.refl _ _).drew.trans hb⟩, rfl⟩
      · intro g1 g2 wq hg1 hg2 hne hh1 hh2 hb
        have HBQ := Lib.hid (HB.out.trans (((Below.refl _ _).drew.trans hb).mono HB.out.size))
        have q0 : wq.cell? ⟨g1, 0, none⟩ = some (.int .i64 n0) := Lib.cell_of_heap hh1 0
        have q1 : wq.cell? ⟨g1, 1, none⟩ = some (.int .i64 n1) := Lib.cell_of_heap hh1 1
        have q2 : wq.cell? ⟨g1, 2, none⟩ = some (.int .i64 n2) := Lib.cell_of_heap hh1 2
        have q3 : wq.cell? ⟨g1, 3, none⟩ = some (.int .i64 n3) := Lib.cell_of_heap hh1 3
        have r0 : wq.cell? ⟨g2, 0, none⟩ = some (.int .i64 n0) := Lib.cell_of_heap hh2 0
        have r1 : wq.cell? ⟨g2, 1, none⟩ = some (.int .i64 n1) := Lib.cell_of_heap hh2 1
        have r2 : wq.cell? ⟨g2, 2, none⟩ = some (.int .i64 n2) := Lib.cell_of_heap hh2 2
        have r3 : wq.cell? ⟨g2, 3, none⟩ = some (.int .i64 n3) := Lib.cell_of_heap hh2 3
        clear hg1 hg2 hne hh1 hh2 hb z6 z3 l6 l3
        go_wp2
        go_roundw
        case rel => exact ⟨j + 1, by go_num, by omega, HBQ.out⟩
        case measure => simp [intOf]; omega
    · go_wp2
      go_ret
      exact ⟨rfl, HBB.out⟩
/-! Whether a segment is the document's: quantization tables. -/
theorem guard64 : Tryd.prog.eqGuardType Tryd.prog.depth 64 = false := by kernel_rfl
theorem self_blk0 (f : Nat → Int) (w : World) : (Op.equalIn (9998 + 1 + 1) 64 (.agg (blk .u16 f)) (.agg (blk .u16 f))).run Tryd.prog w = .ok ((List.range 64).all fun i => f i == f i) w := by
  obtain ⟨i, hi⟩ : ∃ i, Tryd.prog.info? 63 = some i := Option.isSome_iff_exists.1 (by kernel_rfl)
  rw [run_equalIn_array w (9998 + 1) _ _ Tryd.underlying64 hi, show Tryd.prog.cellsOf 63 = 1 by kernel_rfl]
  refine eqItems_all _ _ _ _ (fun i => f i == f i) w _ fun i hi => ?_
  have h64 : i < 64 := by simpa using hi
  refine ⟨_, _, run_part_plain w (by simp [Program.plainKey, Tryd.underlying63]) (by rw [Nat.mul_one]; exact blk_at _ f i h64), run_part_plain w (by simp [Program.plainKey, Tryd.underlying63]) (by rw [Nat.mul_one]; exact blk_at _ f i h64), ?_⟩
  exact run_equalIn_int w 9998 63 .u16 _ _ _ Tryd.underlying63
theorem self_blk (f : Nat → Int) (w : World) : (Op.equalIn 10000 64 (.agg (blk .u16 f)) (.agg (blk .u16 f))).run Tryd.prog w = .ok true w := by
  have h := self_blk0 f w
  rw [(all_blk f f).2 rfl] at h
  exact h
theorem sizeF (f : Nat → Int) : (Tryd.prog.info? 64).map (·.size) = some (blk .u16 f).size := by rw [blk_size]; kernel_rfl
set_option maxRecDepth 100000 in
set_option maxHeartbeats 8000000 in
theorem same_quants (v u : Value) (l : List QT) (hl : l.length ≤ 1000000) (w : World) (hv : RowV 66 cellsQ v l w) (hu : RowV 66 cellsQ u l w) :
    Calls Tryd.prog 13 #[.iface 62 (.agg #[v]), .agg (dsg 219 ⟨#[]⟩ u (.slice none 0 0) 0 0 (.slice none 0 0) (.slice none 0 0) 0 0 0 0 0)] w fun e w' => e = .returned (.bool true) ∧ Below w.heap.size w w' := by
  have HTOK := Lib.hid trivial
  obtain ⟨p, m, c, rfl, hm⟩ := hv.shape
  obtain ⟨p', m', c', rfl, hm'⟩ := hu.shape
  obtain rfl : m' = m := hm'.out.trans hm.out.symm
  have HV := Lib.hid hv
  have HU := Lib.hid hu
  have HM := Lib.hid hm.out
  have hml : m' ≤ 1000000 := by rw [hm.out]; exact hl
  have A98 := fun w => no98 (t := 62) (by decide) (.agg #[.slice p m' c]) w
  have A62 := fun w => assert_yes (T := 62) Tryd.underlying62 rfl (.agg #[.slice p m' c]) w
  have b4 : ((m' : Int) != (m' : Int)) = false := by simp
  clear hv hu hl hm' hm
  go_enter Tryd.func13, Tryd.ntmps13
  go_wp2_with (have ht := HTOK.out; refine wpList_freshG rfl 62 _ _ rfl (w.heap.size + 1) (size_alloc _ _) #[.slice p m' c] _ rfl rfl (by kernel_rfl) rfl (by simp; rfl) ?_; intro y hy hby; have HX := Lib.hid ((XB.start _ w).frame hby); have x0 : y.cell? ⟨w.heap.size, 0, none⟩ = some (.int .i64 219) := HX.out.get 0; have x2 : y.cell? ⟨w.heap.size, 2, none⟩ = some (.slice p' m' c') := HX.out.get 2; rw [size_alloc] at hy; have HYB := Lib.hid hy; have y0 : y.cell? ⟨w.heap.size + 1, 0, none⟩ = some (.slice p m' c) := Lib.cell_of_heap hy 0; clear hy hby HTOK ht)
  go_loopw [7] (fun i wr => ∃ j : Nat, i = .int .i64 j ∧ j ≤ m' ∧ Below y.heap.size y wr) (fun i _ => m' - (intOf i).toNat)
  case atStart => exact ⟨0, rfl, Nat.zero_le _, Below.refl _ _⟩
  case round =>
    obtain ⟨j, rfl, hj, hB⟩ := hrel
    have HB := Lib.hid hB
    have X := HX.out.frame hB
    have Y := hB.block _ (Array.getElem?_eq_some_iff.1 HYB.out).1
    rw [HYB.out] at Y
    have z2 : wr.cell? ⟨w.heap.size, 2, none⟩ = some (.slice p' m' c') := X.get 2
    have z0 : wr.cell? ⟨w.heap.size + 1, 0, none⟩ = some (.slice p m' c) := Lib.cell_of_heap Y 0
    have hBB : Below w.heap.size w wr := HX.out.low.trans (hB.mono HX.out.low.size)
    have HBB := Lib.hid hBB
    clear hB X Y x0 x2 y0
    by_cases hlt : j < m'
    · have hjl : j < l.length := by rw [← HM.out]; exact hlt
      obtain ⟨b, o, d, hvv, _, hc⟩ := (HV.out.on cellsQ_size hBB).lies (by omega)
      obtain ⟨b', o', d', hvv', _, hc'⟩ := (HU.out.on cellsQ_size hBB).lies (by omega)
      simp only [Value.slice.injEq] at hvv hvv'
      obtain ⟨rfl, hy1, rfl⟩ := hvv
      obtain ⟨rfl, hy3, rfl⟩ := hvv'
      have q0 : wr.cell? ⟨b, o + j * 66, none⟩ = some (.int .i64 l[j].1) := (hc j hjl 0 (by omega)).trans (cellsQ_0 _)
      have q1 : wr.cell? ⟨b, o + j * 66 + 1, none⟩ = some (.bool l[j].2.1) := (hc j hjl 1 (by omega)).trans (cellsQ_1 _)
      have r0 : wr.cell? ⟨b', o' + j * 66, none⟩ = some (.int .i64 l[j].1) := (hc' j hjl 0 (by omega)).trans (cellsQ_0 _)
      have r1 : wr.cell? ⟨b', o' + j * 66 + 1, none⟩ = some (.bool l[j].2.1) := (hc' j hjl 1 (by omega)).trans (cellsQ_1 _)
      have HC := Lib.hid (fun i (hi : i < (blk .u16 l[j].2.2).size) => (show wr.cell? ⟨b, o + j * 66 + 2 + i, none⟩ = (blk .u16 l[j].2.2)[i]? from by
        rw [blk_size] at hi
        rw [blk_at _ _ _ hi, show o + j * 66 + 2 + i = o + (j * 66 + (2 + i)) by omega, hc j hjl (2 + i) (by omega)]
        exact cellsQ_at _ _ hi))
      have HC' := Lib.hid (fun i (hi : i < (blk .u16 l[j].2.2).size) => (show wr.cell? ⟨b', o' + j * 66 + 2 + i, none⟩ = (blk .u16 l[j].2.2)[i]? from by
        rw [blk_size] at hi
        rw [blk_at _ _ _ hi, show o' + j * 66 + 2 + i = o' + (j * 66 + (2 + i)) by omega, hc' j hjl (2 + i) (by omega)]
        exact cellsQ_at _ _ hi))
      have S1 := Lib.hid (sizeF l[j].2.2)
      have hr := self_blk l[j].2.2
      have g := guard64
      generalize l[j].1 = n at *
      generalize l[j].2.1 = t at *
      generalize blk .u16 l[j].2.2 = F at *
      have e1 : (n != n) = false := by simp
      have e2 : (t != t) = false := by simp
      have hjm : (j : Int) < (m' : Int) := by omega
      clear hc hc' hy1 hy3 hjl hBB
      have HB3 := Lib.hid (fun q => HB.out.trans (below_drewN y.heap.size wr q))
      go_wp2
      refine wp_region_quiet_lit (by kernel_rfl) (by kernel_rfl) ?_
      repeat (first
        | refine wpQuiet_load_at 64 _ rfl (by rfl) Tryd.underlying64 rfl b (o + j * 66 + 2) rfl F S1.out (by rintro _ ⟨nq, rfl⟩; exact HC.out) ?_
        | refine wpQuiet_load_at 64 _ rfl (by rfl) Tryd.underlying64 rfl b' (o' + j * 66 + 2) rfl F S1.out (by rintro _ ⟨nq, rfl⟩; exact HC'.out) ?_
        | quiet_step (fail))
      refine wpQuiet_nil ?_
      intro _ hw'
      obtain ⟨nq, hw''⟩ := hw'
      subst hw''
      go_wp2
      go_roundw
      case rel => exact ⟨j + 1, by go_num, by omega, HB3.out nq⟩
      case measure => simp [intOf]; omega
    · go_wp2
      go_ret
      exact ⟨rfl, HBB.out⟩
/-! Whether a segment is the document's: a scan's beginning. -/
theorem size118S (x : KT) : (Tryd.prog.info? 118).map (·.size) = some (cellsK x).size := by kernel_rfl
theorem zero118 : (Tryd.prog.info? 118).map (fun i => (i.zero, i.size)) = some (some (.agg (cellsK (0, 0, 0))), (cellsK (0, 0, 0)).size) := by kernel_rfl
theorem zero117 : (Tryd.prog.info? 117).map (fun i => (i.zero, i.size)) = some (some (.agg (cellsK (0, 0, 0))), (cellsK (0, 0, 0)).size) := by kernel_rfl
set_option maxRecDepth 100000 in
set_option maxHeartbeats 4000000 in
theorem same_scan (f t hi lo : Int) (v u : Value) (l : List KT) (hl : l.length ≤ 1000000) (w : World) (hv : RowV 3 cellsK v l w) (hu : RowV 3 cellsK u l w) :
    Calls Tryd.prog 13 #[.iface 49 (.agg #[v, .int .i64 f, .int .i64 t, .int .i64 hi, .int .i64 lo]), .agg (dsg 218 ⟨#[]⟩ (.slice none 0 0) (.slice none 0 0) 0 0 (.slice none 0 0) u f t hi lo 0)] w fun e w' => e = .returned (.bool true) ∧ Below w.heap.size w w' := by
  have HTOK := Lib.hid trivial
  obtain ⟨p, m, c, rfl, hm⟩ := hv.shape
  obtain ⟨p', m', c', rfl, hm'⟩ := hu.shape
  obtain rfl : m' = m := hm'.out.trans hm.out.symm
  have HV := Lib.hid hv
  have HU := Lib.hid hu
  have hml : m' ≤ 1000000 := by rw [hm.out]; exact hl
  have HM := Lib.hid hm.out
  have A98 := fun w => no98 (t := 49) (by decide) (.agg #[.slice p m' c, .int .i64 f, .int .i64 t, .int .i64 hi, .int .i64 lo]) w
  have A62 := fun w => no62 (t := 49) (by decide) (.agg #[.slice p m' c, .int .i64 f, .int .i64 t, .int .i64 hi, .int .i64 lo]) w
  have A70 := fun w => no70 (t := 49) (by decide) (.agg #[.slice p m' c, .int .i64 f, .int .i64 t, .int .i64 hi, .int .i64 lo]) w
  have A44 := fun w => no44 (t := 49) (by decide) (.agg #[.slice p m' c, .int .i64 f, .int .i64 t, .int .i64 hi, .int .i64 lo]) w
  have A49 := fun w => assert_yes (T := 49) Tryd.underlying49 rfl (.agg #[.slice p m' c, .int .i64 f, .int .i64 t, .int .i64 hi, .int .i64 lo]) w
  have b1 : (f != f) = false := by simp
  have b2 : (t != t) = false := by simp
  have b3 : (hi != hi) = false := by simp
  have b5 : (lo != lo) = false := by simp
  have b4 : ((m' : Int) != (m' : Int)) = false := by simp
  clear hv hu hl hm'
  go_enter Tryd.func13, Tryd.ntmps13
  go_wp2_with (have ht := HTOK.out; refine wpList_freshG rfl 49 _ _ rfl (w.heap.size + 1) (size_alloc _ _) #[.slice p m' c, .int .i64 f, .int .i64 t, .int .i64 hi, .int .i64 lo] _ rfl rfl (by kernel_rfl) rfl (by simp; exact ⟨rfl, rfl, rfl, rfl, rfl⟩) ?_; intro y hy hby; have HX := Lib.hid ((XB.start _ w).frame hby); have x0 : y.cell? ⟨w.heap.size, 0, none⟩ = some (.int .i64 218) := HX.out.get 0; have x7 : y.cell? ⟨w.heap.size, 7, none⟩ = some (.slice p' m' c') := HX.out.get 7; have x8 : y.cell? ⟨w.heap.size, 8, none⟩ = some (.int .i64 f) := HX.out.get 8; have x9 : y.cell? ⟨w.heap.size, 9, none⟩ = some (.int .i64 t) := HX.out.get 9; have x10 : y.cell? ⟨w.heap.size, 10, none⟩ = some (.int .i64 hi) := HX.out.get 10; have x11 : y.cell? ⟨w.heap.size, 11, none⟩ = some (.int .i64 lo) := HX.out.get 11; rw [size_alloc] at hy; have HYB := Lib.hid hy; have y0 : y.cell? ⟨w.heap.size + 1, 0, none⟩ = some (.slice p m' c) := Lib.cell_of_heap hy 0; have y1 : y.cell? ⟨w.heap.size + 1, 1, none⟩ = some (.int .i64 f) := Lib.cell_of_heap hy 1; have y2 : y.cell? ⟨w.heap.size + 1, 2, none⟩ = some (.int .i64 t) := Lib.cell_of_heap hy 2; have y3 : y.cell? ⟨w.heap.size + 1, 3, none⟩ = some (.int .i64 hi) := Lib.cell_of_heap hy 3; have y4 : y.cell? ⟨w.heap.size + 1, 4, none⟩ = some (.int .i64 lo) := Lib.cell_of_heap hy 4; clear hy hby HTOK ht)
  go_loopw [17] (fun i wr => ∃ j : Nat, i = .int .i64 j ∧ j ≤ m' ∧ Below y.heap.size y wr) (fun i _ => m' - (intOf i).toNat)
  case atStart => exact ⟨0, rfl, Nat.zero_le _, Below.refl _ _⟩
  case round =>
    obtain ⟨j, rfl, hj, hB⟩ := hrel
    have HB := Lib.hid hB
    have X := HX.out.frame hB
    have Y := hB.block _ (Array.getElem?_eq_some_iff.1 HYB.out).1
    rw [HYB.out] at Y
    have z7 : wr.cell? ⟨w.heap.size, 7, none⟩ = some (.slice p' m' c') := X.get 7
    have z0 : wr.cell? ⟨w.heap.size + 1, 0, none⟩ = some (.slice p m' c) := Lib.cell_of_heap Y 0
    have hBB : Below w.heap.size w wr := HX.out.low.trans (hB.mono HX.out.low.size)
    have HBB := Lib.hid hBB
    clear hB X Y x0 x7 x8 x9 x10 x11 y0 y1 y2 y3 y4
    by_cases hlt : j < m'
    · have hjl : j < l.length := by rw [← HM.out]; exact hlt
      obtain ⟨b, o, d, hvv, _, hc⟩ := (HV.out.on cellsK_size hBB).lies (by omega)
      obtain ⟨b', o', d', hvv', _, hc'⟩ := (HU.out.on cellsK_size hBB).lies (by omega)
      simp only [Value.slice.injEq] at hvv hvv'
      obtain ⟨rfl, hy1, rfl⟩ := hvv
      obtain ⟨rfl, hy3, rfl⟩ := hvv'
      obtain ⟨q0, q1, q2⟩ := pick_cells hc hjl
      obtain ⟨r0, r1, r2⟩ := pick_cells hc' hjl
      generalize l[j].1 = n0 at *
      generalize l[j].2.1 = n1 at *
      generalize l[j].2.2 = n2 at *
      have e0 : (n0 != n0) = false := by simp
      have e1 : (n1 != n1) = false := by simp
      have e2 : (n2 != n2) = false := by simp
      have hjm : (j : Int) < (m' : Int) := by omega
      clear hc hc' hy1 hy3 hjl hBB
      have l7 : ∀ x : Bel wr, x.W.cell? ⟨w.heap.size, 7, none⟩ = some (.slice (some ⟨b', o', none⟩) m' c') := fun x => cell_below z7 x.h
      have l0 : ∀ x : Bel wr, x.W.cell? ⟨w.heap.size + 1, 0, none⟩ = some (.slice (some ⟨b, o, none⟩) m' c) := fun x => cell_below z0 x.h
      have HL1 : Hid (∀ W', (∃ x : Bel wr, W' = x.W) → ∀ k, k < (cellsK (n0, n1, n2)).size → W'.cell? ⟨b, o + j * 3 + k, none⟩ = (cellsK (n0, n1, n2))[k]?) := by
        rintro _ ⟨x, rfl⟩ k hk
        rw [cellsK_size] at hk
        rcases (by omega : k = 0 ∨ k = 1 ∨ k = 2) with rfl | rfl | rfl
        · exact cell_below q0 x.h
        · exact cell_below q1 x.h
        · exact cell_below q2 x.h
      have HL2 : Hid (∀ W', (∃ x : Bel wr, W' = x.W) → ∀ k, k < (cellsK (n0, n1, n2)).size → W'.cell? ⟨b', o' + j * 3 + k, none⟩ = (cellsK (n0, n1, n2))[k]?) := by
        rintro _ ⟨x, rfl⟩ k hk
        rw [cellsK_size] at hk
        rcases (by omega : k = 0 ∨ k = 1 ∨ k = 2) with rfl | rfl | rfl
        · exact cell_below r0 x.h
        · exact cell_below r1 x.h
        · exact cell_below r2 x.h
      clear q0 q1 q2 r0 r1 r2
      go_wp2
      have hnb := nonempty_bel
      refine wp_region_mix (fun W' => ∃ x : Bel wr, W' = x.W) [true, true, true, true, true, true, true, true, true, true, false, false, false, false] 4 (by kernel_rfl) (by kernel_rfl) ⟨⟨_, (Below.refl _ _).drew⟩, rfl⟩ ?_
      dsimp only [qpick]
      repeat (first
        | refine wpQuiet_load_at 117 _ rfl (by rfl) Tryd.underlying117 rfl b (o + j * 3) rfl (cellsK (n0, n1, n2)) (size117K _) HL1.out ?_
        | refine wpQuiet_load_at 118 _ rfl (by rfl) Tryd.underlying118 rfl b' (o' + j * 3) rfl (cellsK (n0, n1, n2)) (size118S _) HL2.out ?_
        | quiet_step (fail))
      refine wpQuiet_nil ?_
      refine mix_two (i1 := 10) (j1 := 12) (i2 := 11) (j2 := 13) (cellsK (n0, n1, n2)) (cellsK (n0, n1, n2)) ⟨rfl, rfl, rfl, rfl⟩ ⟨rfl, rfl, rfl, rfl⟩ ⟨rfl, rfl, rfl, rfl⟩ ⟨rfl, rfl, rfl, rfl⟩ (by decide) (by kernel_rfl) ?_ ?_ zero117 zero118 ⟨rfl, rfl⟩ ⟨cellsK_one _, cellsK_one _⟩ ?_ ?_
      · exact ⟨of_decide_eq_true (by kernel_rfl), of_decide_eq_true (by kernel_rfl)⟩
      · exact ⟨by kernel_rfl, by kernel_rfl⟩
      · exact fun w' hb => ⟨⟨w', (Below.refl _ _).drew.trans hb⟩, rfl⟩
      · intro g1 g2 wq hg1 hg2 hne hh1 hh2 hb
        have HBQ := Lib.hid (HB.out.trans (((Below.refl _ _).drew.trans hb).mono HB.out.size))
        have q0 : wq.cell? ⟨g1, 0, none⟩ = some (.int .i64 n0) := Lib.cell_of_heap hh1 0
        have q1 : wq.cell? ⟨g1, 1, none⟩ = some (.int .i64 n1) := Lib.cell_of_heap hh1 1
        have q2 : wq.cell? ⟨g1, 2, none⟩ = some (.int .i64 n2) := Lib.cell_of_heap hh1 2
        have r0 : wq.cell? ⟨g2, 0, none⟩ = some (.int .i64 n0) := Lib.cell_of_heap hh2 0
        have r1 : wq.cell? ⟨g2, 1, none⟩ = some (.int .i64 n1) := Lib.cell_of_heap hh2 1
        have r2 : wq.cell? ⟨g2, 2, none⟩ = some (.int .i64 n2) := Lib.cell_of_heap hh2 2
        clear hg1 hg2 hne hh1 hh2 hb z7 z0 l7 l0
        go_wp2
        go_roundw
        case rel => exact ⟨j + 1, by go_num, by omega, HBQ.out⟩
        case measure => simp [intOf]; omega
    · go_wp2
      go_ret
      exact ⟨rfl, HBB.out⟩
/-! Whether a segment is the document's: Huffman tables. -/
theorem size73S (x : HT) : (Tryd.prog.info? 73).map (·.size) = some (cellsH x).size := by rw [cellsH_size]; kernel_rfl
theorem zero73S : (Tryd.prog.info? 73).map (fun i => (i.zero, i.size)) = some (some (.agg (cellsH (0, 0, fun _ => 0, ⟨#[]⟩))), (cellsH (0, 0, fun _ => 0, ⟨#[]⟩)).size) := by kernel_rfl
theorem zero74S : (Tryd.prog.info? 74).map (fun i => (i.zero, i.size)) = some (some (.agg (cellsH (0, 0, fun _ => 0, ⟨#[]⟩))), (cellsH (0, 0, fun _ => 0, ⟨#[]⟩)).size) := by kernel_rfl
theorem guard71 : Tryd.prog.eqGuardType Tryd.prog.depth 71 = false := by kernel_rfl
theorem self_cnt0 (f : Nat → Nat) (w : World) : (Op.equalIn (9998 + 1 + 1) 71 (.agg (cnt f)) (.agg (cnt f))).run Tryd.prog w = .ok ((List.range 16).all fun i => ((f i : Nat) : Int) == ((f i : Nat) : Int)) w := by
  obtain ⟨i, hi⟩ : ∃ i, Tryd.prog.info? 5 = some i := Option.isSome_iff_exists.1 (by kernel_rfl)
  rw [run_equalIn_array w (9998 + 1) _ _ Tryd.underlying71 hi, show Tryd.prog.cellsOf 5 = 1 by kernel_rfl]
  refine eqItems_all _ _ _ _ (fun i => ((f i : Nat) : Int) == ((f i : Nat) : Int)) w _ fun i hi => ?_
  have h16 : i < 16 := by simpa using hi
  refine ⟨_, _, run_part_plain w (by simp [Program.plainKey, Tryd.underlying5]) (by rw [Nat.mul_one]; exact cnt_at f i h16), run_part_plain w (by simp [Program.plainKey, Tryd.underlying5]) (by rw [Nat.mul_one]; exact cnt_at f i h16), ?_⟩
  exact run_equalIn_int w 9998 5 .u8 _ _ _ Tryd.underlying5
theorem self_cnt (f : Nat → Nat) (w : World) : (Op.equalIn 10000 71 (.agg (cnt f)) (.agg (cnt f))).run Tryd.prog w = .ok true w := by
  have h := self_cnt0 f w
  rw [(all_cnt f f).2 rfl] at h
  exact h
/-- As wpList_load_at, at a guarded operation that is wanted. -/
theorem wpList_load_w {ops : Array Oper} {rest : List Oper} {o : Oper} {a : Act} {w : World} {Q : Exit → Act → World → Prop} (hw : Region.wanted o (yielded ops a.tmps) = true) (t : TypeId) (x : Operand) (ho : o.op = .load t x) {d : TypeDesc} (hu : Tryd.prog.underlying t = some d) (hd : (match d with | .struct _ | .array _ _ => true | _ => false) = true)
    (g i : Nat) (hx : a.eval x = .pointer (some ⟨g, i, none⟩)) (c : Array Value) (hi : (Tryd.prog.info? t).map (·.size) = some c.size)
    (hc : ∀ j, j < c.size → w.cell? ⟨g, i + j, none⟩ = c[j]?) (h : wpList Tryd.prog ops Q rest (a.put o.dst (.agg c)) w) : wpList Tryd.prog ops Q (o :: rest) a w := by
  unfold wpList
  rw [if_pos hw]
  refine .inl ?_
  unfold Oper.wp execOp
  simp only [ho, hx, Instr.loadAt, Instr.sureAddr, Sem.run_bind, Sem.run_pure, Result.andThen_ok, run_load_at hu hd hi hc]
  exact h
theorem sizeCnt (f : Nat → Nat) : (Tryd.prog.info? 71).map (·.size) = some (cnt f).size := by rw [cnt_size]; kernel_rfl
set_option maxRecDepth 100000 in
set_option maxHeartbeats 4000000 in
theorem same_huffs (v u : Value) (l : List HT) (hl : l.length ≤ 1000000) (w : World) (hv : RowV 19 cellsH v l w) (hu : RowV 19 cellsH u l w) :
    Calls Tryd.prog 13 #[.iface 70 (.agg #[v]), .agg (dsg 196 ⟨#[]⟩ (.slice none 0 0) u 0 0 (.slice none 0 0) (.slice none 0 0) 0 0 0 0 0)] w fun e w' => e = .returned (.bool true) ∧ Below w.heap.size w w' := by
  have HTOK := Lib.hid trivial
  obtain ⟨p, m, c, rfl, hm⟩ := hv.shape
  obtain ⟨p', m', c', rfl, hm'⟩ := hu.shape
  obtain rfl : m' = m := hm'.out.trans hm.out.symm
  have HV := Lib.hid hv
  have HU := Lib.hid hu
  have hml : m' ≤ 1000000 := by rw [hm.out]; exact hl
  have HM := Lib.hid hm.out
  have A98 := fun w => no98 (t := 70) (by decide) (.agg #[.slice p m' c]) w
  have A62 := fun w => no62 (t := 70) (by decide) (.agg #[.slice p m' c]) w
  have A70 := fun w => assert_yes (T := 70) Tryd.underlying70 rfl (.agg #[.slice p m' c]) w
  have b4 : ((m' : Int) != (m' : Int)) = false := by simp
  clear hv hu hl hm'
  go_enter Tryd.func13, Tryd.ntmps13
  go_wp2_with (have ht := HTOK.out; refine wpList_freshG rfl 70 _ _ rfl (w.heap.size + 1) (size_alloc _ _) #[.slice p m' c] _ rfl rfl (by kernel_rfl) rfl (by simp; rfl) ?_; intro y hy hby; have HX := Lib.hid ((XB.start _ w).frame hby); have x0 : y.cell? ⟨w.heap.size, 0, none⟩ = some (.int .i64 196) := HX.out.get 0; have x7 : y.cell? ⟨w.heap.size, 3, none⟩ = some (.slice p' m' c') := HX.out.get 3; rw [size_alloc] at hy; have HYB := Lib.hid hy; have y0 : y.cell? ⟨w.heap.size + 1, 0, none⟩ = some (.slice p m' c) := Lib.cell_of_heap hy 0; clear hy hby HTOK ht)
  go_loopw [9] (fun i wr => ∃ j : Nat, i = .int .i64 j ∧ j ≤ m' ∧ Below y.heap.size y wr) (fun i _ => m' - (intOf i).toNat)
  case atStart => exact ⟨0, rfl, Nat.zero_le _, Below.refl _ _⟩
  case round =>
    obtain ⟨j, rfl, hj, hB⟩ := hrel
    have HB := Lib.hid hB
    have X := HX.out.frame hB
    have Y := hB.block _ (Array.getElem?_eq_some_iff.1 HYB.out).1
    rw [HYB.out] at Y
    have z7 : wr.cell? ⟨w.heap.size, 3, none⟩ = some (.slice p' m' c') := X.get 3
    have z0 : wr.cell? ⟨w.heap.size + 1, 0, none⟩ = some (.slice p m' c) := Lib.cell_of_heap Y 0
    have hBB : Below w.heap.size w wr := HX.out.low.trans (hB.mono HX.out.low.size)
    have HBB := Lib.hid hBB
    clear hB X Y x0 x7 y0
    by_cases hlt : j < m'
    · have hjl : j < l.length := by rw [← HM.out]; exact hlt
      obtain ⟨b, o, d, hvv, _, hc⟩ := (HV.out.on cellsH_size hBB).lies (by omega)
      obtain ⟨b', o', d', hvv', _, hc'⟩ := (HU.out.on cellsH_size hBB).lies (by omega)
      simp only [Value.slice.injEq] at hvv hvv'
      obtain ⟨rfl, hy1, rfl⟩ := hvv
      obtain ⟨rfl, hy3, rfl⟩ := hvv'
      have HC := Lib.hid (hc j hjl)
      have HC' := Lib.hid (hc' j hjl)
      generalize l[j] = L at *
      have e0 : (L.1 != L.1) = false := by simp
      have e1 : (L.2.1 != L.2.1) = false := by simp
      have e2 : (L.2.2.2.toList == L.2.2.2.toList) = true := by simp
      have e3 : (L.2.2.2.toList != L.2.2.2.toList) = false := by simp
      have g := guard71
      have hself := self_cnt L.2.2.1
      have hjm : (j : Int) < (m' : Int) := by omega
      clear hc hc' hy1 hy3 hjl hBB
      have l7 : ∀ x : Bel wr, x.W.cell? ⟨w.heap.size, 3, none⟩ = some (.slice (some ⟨b', o', none⟩) m' c') := fun x => cell_below z7 x.h
      have l0 : ∀ x : Bel wr, x.W.cell? ⟨w.heap.size + 1, 0, none⟩ = some (.slice (some ⟨b, o, none⟩) m' c) := fun x => cell_below z0 x.h
      have HL1 : Hid (∀ W', (∃ x : Bel wr, W' = x.W) → ∀ k, k < (cellsH L).size → W'.cell? ⟨b, o + j * 19 + k, none⟩ = (cellsH L)[k]?) := by
        rintro _ ⟨x, rfl⟩ k hk
        have h1 := HC.out k (by rw [cellsH_size] at hk; exact hk)
        rw [Array.getElem?_eq_getElem hk] at h1 ⊢
        rw [Nat.add_assoc]
        exact cell_below h1 x.h
      have HL2 : Hid (∀ W', (∃ x : Bel wr, W' = x.W) → ∀ k, k < (cellsH L).size → W'.cell? ⟨b', o' + j * 19 + k, none⟩ = (cellsH L)[k]?) := by
        rintro _ ⟨x, rfl⟩ k hk
        have h1 := HC'.out k (by rw [cellsH_size] at hk; exact hk)
        rw [Array.getElem?_eq_getElem hk] at h1 ⊢
        rw [Nat.add_assoc]
        exact cell_below h1 x.h
      clear HC HC'
      go_wp2
      have hnb := nonempty_bel
      refine wp_region_mix (fun W' => ∃ x : Bel wr, W' = x.W) [true, true, true, true, true, true, true, true, true, true, false, false, false, false] 4 (by kernel_rfl) (by kernel_rfl) ⟨⟨_, (Below.refl _ _).drew⟩, rfl⟩ ?_
      dsimp only [qpick]
      repeat (first
        | refine wpQuiet_load_at 74 _ rfl (by rfl) Tryd.underlying74 rfl b (o + j * 19) rfl (cellsH L) (size74 _) HL1.out ?_
        | refine wpQuiet_load_at 73 _ rfl (by rfl) Tryd.underlying73 rfl b' (o' + j * 19) rfl (cellsH L) (size73S _) HL2.out ?_
        | quiet_step (fail))
      refine wpQuiet_nil ?_
      refine mix_two (i1 := 10) (j1 := 12) (i2 := 11) (j2 := 13) (cellsH L) (cellsH L) ⟨rfl, rfl, rfl, rfl⟩ ⟨rfl, rfl, rfl, rfl⟩ ⟨rfl, rfl, rfl, rfl⟩ ⟨rfl, rfl, rfl, rfl⟩ (by decide) (by kernel_rfl) ?_ ?_ zero74S zero73S ⟨(cellsH_size _).trans (cellsH_size _).symm, (cellsH_size _).trans (cellsH_size _).symm⟩ ⟨cellsH_one _, cellsH_one _⟩ ?_ ?_
      · exact ⟨of_decide_eq_true (by kernel_rfl), of_decide_eq_true (by kernel_rfl)⟩
      · exact ⟨by kernel_rfl, by kernel_rfl⟩
      · exact fun w' hb => ⟨⟨w', (Below.refl _ _).drew.trans hb⟩, rfl⟩
      · intro g1 g2 wq hg1 hg2 hne hh1 hh2 hb
        have HBQ := Lib.hid (HB.out.trans (((Below.refl _ _).drew.trans hb).mono HB.out.size))
        have q0 : wq.cell? ⟨g1, 0, none⟩ = some (.int .i64 L.1) := (Lib.cell_of_heap hh1 0).trans (cellsH_get L 0)
        have q1 : wq.cell? ⟨g1, 1, none⟩ = some (.int .i64 L.2.1) := (Lib.cell_of_heap hh1 1).trans (cellsH_get L 1)
        have q3 : wq.cell? ⟨g1, 18, none⟩ = some (.string L.2.2.2) := (Lib.cell_of_heap hh1 18).trans (cellsH_get L 18)
        have r0 : wq.cell? ⟨g2, 0, none⟩ = some (.int .i64 L.1) := (Lib.cell_of_heap hh2 0).trans (cellsH_get L 0)
        have r1 : wq.cell? ⟨g2, 1, none⟩ = some (.int .i64 L.2.1) := (Lib.cell_of_heap hh2 1).trans (cellsH_get L 1)
        have r3 : wq.cell? ⟨g2, 18, none⟩ = some (.string L.2.2.2) := (Lib.cell_of_heap hh2 18).trans (cellsH_get L 18)
        have HQ : Hid (∀ i, i < (cnt L.2.2.1).size → wq.cell? ⟨g1, 2 + i, none⟩ = (cnt L.2.2.1)[i]?) := by
          intro i hi
          rw [cnt_size] at hi
          rw [cnt_at _ _ hi]
          refine (Lib.cell_of_heap hh1 (2 + i)).trans ((cellsH_get L (2 + i)).trans ?_)
          rw [if_neg (by omega), if_neg (by omega), if_pos (by omega), show 2 + i - 2 = i by omega]
        have HR : Hid (∀ i, i < (cnt L.2.2.1).size → wq.cell? ⟨g2, 2 + i, none⟩ = (cnt L.2.2.1)[i]?) := by
          intro i hi
          rw [cnt_size] at hi
          rw [cnt_at _ _ hi]
          refine (Lib.cell_of_heap hh2 (2 + i)).trans ((cellsH_get L (2 + i)).trans ?_)
          rw [if_neg (by omega), if_neg (by omega), if_pos (by omega), show 2 + i - 2 = i by omega]
        have S1 := Lib.hid (sizeCnt L.2.2.1)
        generalize cnt L.2.2.1 = F at *
        clear hg1 hg2 hne hh1 hh2 hb z7 z0 l7 l0
        go_wp2_with (first
          | refine wpList_load_w (by rfl) 71 _ rfl Tryd.underlying71 rfl g1 2 rfl F S1.out HQ.out ?_
          | refine wpList_load_w (by rfl) 71 _ rfl Tryd.underlying71 rfl g2 2 rfl F S1.out HR.out ?_)
        go_roundw
        case rel => exact ⟨j + 1, by go_num, by omega, HBQ.out⟩
        case measure => simp [intOf]; omega
    · go_wp2
      go_ret
      exact ⟨rfl, HBB.out⟩
/-! SegParses: the program's segment and the document's, compared. -/
theorem rlist_lenL {α : Type} (rd : Nat × Nat → α × (Nat × Nat)) (s : ByteArray) : ∀ f p, (rlist rd s f p).1.length ≤ f
  | 0, p => by simp [rlist]
  | f + 1, p => by
    by_cases hm : rmore s p = true
    · rw [rlist_yes hm]
      have := rlist_lenL rd s f (rd p).2
      simp only [List.length_cons]
      omega
    · rw [rlist_no (by simpa using hm)]
      simp
theorem rall_lenL {α : Type} (rd : Nat × Nat → α × (Nat × Nat)) (s : ByteArray) (hs : s.size ≤ 65533) : (rall rd s (0, 0)).1.length ≤ 1000000 := by
  have := rlist_lenL rd s (s.size + 1) (rd (0, 0)).2
  unfold rall
  simp only [List.length_cons]
  omega
/-- What is read has few parts; a frame's and a plain segment's codes. -/
def okPS : PS → Prop
  | .inl (z, _) => 224 ≤ z
  | .inr (.inl l) => l.length ≤ 1000000
  | .inr (.inr (.inl l)) => l.length ≤ 1000000
  | .inr (.inr (.inr (.inl (z, _, _, l)))) => z ≤ 194 ∧ l.length ≤ 1000000
  | .inr (.inr (.inr (.inr (.inl (l, _, _, _, _))))) => l.length ≤ 1000000
  | .inr (.inr (.inr (.inr (.inr _)))) => True
theorem okPS_rseg {z : Int} {s : ByteArray} (h : perr z s = 0) : okPS (rseg z s).1 := by
  have h0 : refu z = 0 := by
    unfold perr at h
    split at h
    · rename_i h1
      exact absurd h h1
    · omega
  have hs : s.size ≤ 65533 := by
    unfold perr at h
    rw [if_neg (by omega)] at h
    split at h
    · cases h
    · omega
  clear h
  unfold refu at h0
  unfold rseg
  split
  · exact rall_lenL _ s hs
  split
  · show (rscan s (0, 0)).1.1.length ≤ 1000000
    unfold rscan
    simp only []
    rw [rpk_length]
    have := rnum_one s (0, 0)
    omega
  split
  · show ((rall (rquant s) s (0, 0)).1.map qt).length ≤ 1000000
    rw [List.length_map]
    exact rall_lenL _ s hs
  split
  · exact trivial
  split
  · rename_i h5
    refine ⟨h5.2, ?_⟩
    show (rframe s (0, 0)).1.2.2.length ≤ 1000000
    unfold rframe
    simp only []
    rw [rps_length]
    exact Nat.le_trans (Nat.le_of_lt_succ (rnum_one s _)) (by decide)
  · show 224 ≤ z
    split at h0
    · cases h0
    · split at h0
      · cases h0
      · split at h0
        · omega
        · cases h0
theorem DV.on {B : Nat} {z : Int} {x : PS} {cs : Array Value} {w w' : World} (h : DV B z x cs w) (hb : Below w.heap.size w w') : DV B z x cs w' := by
  rcases x with ⟨z', s⟩ | l | l | ⟨z', a, b, l⟩ | ⟨l, a, b, c, d⟩ | n
  · exact h
  · obtain ⟨v, h1, h2⟩ := h; exact ⟨v, h1, h2.on hb⟩
  · obtain ⟨v, h1, h2⟩ := h; exact ⟨v, h1, h2.on hb⟩
  · obtain ⟨v, h1, h2, h3⟩ := h; exact ⟨v, h1, h2, h3.on hb⟩
  · obtain ⟨v, h1, h2⟩ := h; exact ⟨v, h1, h2.on hb⟩
  · exact h
theorem dsg_oneL (z : Int) (b : ByteArray) (q1 q2 a1 b1 : Option Addr) (q3 q4 q5 q6 a2 a3 b2 b3 : Nat) (H W f t hi lo n : Int) : (dsg z b (.slice q1 q3 q4) (.slice q2 q5 q6) H W (.slice a1 a2 a3) (.slice b1 b2 b3) f t hi lo n).all (·.oneCell') = true := by
  unfold dsg
  simp
  exact ⟨rfl, rfl, rfl, rfl, rfl, rfl, rfl, rfl, rfl, rfl, rfl, rfl, rfl⟩
theorem DV.one {B : Nat} {z : Int} {x : PS} {cs : Array Value} {w : World} (h : DV B z x cs w) : cs.size = 13 ∧ cs.all (·.oneCell') = true := by
  rcases x with ⟨z', s⟩ | l | l | ⟨z', a, b, l⟩ | ⟨l, a, b, c, d⟩ | n
  · obtain ⟨rfl, rfl⟩ := h; exact ⟨rfl, dsg_oneL ..⟩
  · obtain ⟨v, rfl, h2⟩ := h; obtain ⟨p, m, c, rfl, _⟩ := h2.shape; exact ⟨rfl, dsg_oneL ..⟩
  · obtain ⟨v, rfl, h2⟩ := h; obtain ⟨p, m, c, rfl, _⟩ := h2.shape; exact ⟨rfl, dsg_oneL ..⟩
  · obtain ⟨v, rfl, rfl, h2⟩ := h; obtain ⟨p, m, c, rfl, _⟩ := h2.shape; exact ⟨rfl, sg_one ..⟩
  · obtain ⟨v, rfl, h2⟩ := h; obtain ⟨p, m, c, rfl, _⟩ := h2.shape; exact ⟨rfl, sg_one ..⟩
  · obtain rfl := h; exact ⟨rfl, dsg_oneL ..⟩
/-- The program's segment and the document's are alike. -/
theorem same_any (B B' : Nat) (z : Int) (x : PS) (V : Value) (cs : Array Value) (w : World) (h1 : SegV B x V w) (h2 : DV B' z x cs w) (h3 : okPS x) :
    Calls Tryd.prog 13 #[V, .agg cs] w fun e w' => e = .returned (.bool true) ∧ Below w.heap.size w w' := by
  rcases x with ⟨z', s⟩ | l | l | ⟨z', a, b, l⟩ | ⟨l, a, b, c, d⟩ | n
  · obtain ⟨rfl, rfl⟩ := h2
    obtain rfl := h1
    exact same_plain z' s h3 w
  · obtain ⟨v, rfl, h2⟩ := h2
    obtain ⟨u, rfl, h1⟩ := h1
    exact same_quants u v l h3 w (h1.view cellsQ_size) (h2.view cellsQ_size)
  · obtain ⟨v, rfl, h2⟩ := h2
    obtain ⟨u, rfl, h1⟩ := h1
    exact same_huffs u v l h3 w (h1.view cellsH_size) (h2.view cellsH_size)
  · obtain ⟨v, rfl, rfl, h2⟩ := h2
    obtain ⟨u, rfl, h1⟩ := h1
    exact same_frame z' a b h3.1 u v l h3.2 w (h1.view cellsP_size) (h2.view cellsP_size)
  · obtain ⟨v, rfl, h2⟩ := h2
    obtain ⟨u, rfl, h1⟩ := h1
    exact same_scan a b c d u v l h3 w (h1.view cellsK_size) (h2.view cellsK_size)
  · obtain rfl := h2
    obtain rfl := h1
    exact same_rest n w
set_option maxRecDepth 100000 in
set_option maxHeartbeats 4000000 in
theorem parses_yes (z : Int) (s : ByteArray) (X : PS) (hX : okPS X) (w : World)
    (H9 : Calls Tryd.prog 9 #[.int .i64 z, .string s] w fun e w' => (∃ V, e = .returned (.tuple #[V, .int .i64 0]) ∧ SegV w.heap.size X V w') ∧ Below w.heap.size w w')
    (H12 : ∀ x, Calls Tryd.prog 12 #[.int .i64 z, .string s] x fun e w' => (∃ cs, e = .returned (.tuple #[.agg cs, .int .i64 0]) ∧ DV x.heap.size z X cs w') ∧ Below x.heap.size x w') :
    Calls Tryd.prog 4 #[.int .i64 z, .string s] w fun e w' => e = .returned (.bool true) ∧ Below w.heap.size w w' := by
  have HX := Lib.hid hX
  have HA := Lib.hid awake_any
  have HP := Lib.hid H9
  have HD := Lib.hid H12
  clear hX H9 H12
  go_enter Tryd.func4, Tryd.ntmps4
  go_wp2_with (first
    | (go_at_call 9; refine HP.out.mono ?_; rintro e w1 ⟨⟨V, rfl, hV⟩, hb⟩; have HV := Lib.hid hV; have HB := Lib.hid hb; clear hV hb HP)
    | (go_at_call 12; refine (HD.out _).mono ?_; rintro e w2 ⟨⟨cs, rfl, hD⟩, hb⟩; have HV2 := Lib.hid (HV.out.on hb); have HD2 := Lib.hid hD; have HB2 := Lib.hid (HB.out.trans (hb.mono HB.out.size)); have HON := Lib.hid hD.one; clear hD hb HD HV HB)
    | (refine wpList_freshG rfl 38 _ _ rfl w2.heap.size rfl cs _ rfl rfl (size38 _ HON.out.1) (by rw [HON.out.1]; kernel_rfl) HON.out.2 ?_; intro y hy hby; have HY := Lib.hid hy; have HV3 := Lib.hid (HV2.out.on hby); have HD3 := Lib.hid (HD2.out.on hby); have HB3 := Lib.hid (HB2.out.trans (hby.mono HB2.out.size)); clear hy hby HV2 HD2 HB2)
    | (go_at_call 10; refine (HA.out y).mono ?_; rintro e w4 ⟨rfl, hb⟩; have HY4 := Lib.hid ((hb.block _ (Array.getElem?_eq_some_iff.1 HY.out).1).trans HY.out); have HV4 := Lib.hid (HV3.out.on hb); have HD4 := Lib.hid (HD3.out.on hb); have HB4 := Lib.hid (HB3.out.trans (hb.mono HB3.out.size)); clear hb HA HV3 HD3 HB3 HY)
    | (refine wpList_load_w (by rfl) 38 _ rfl Tryd.underlying38 rfl w2.heap.size 0 rfl cs (size38 _ HON.out.1) (fun j _ => by rw [Nat.zero_add]; exact Lib.cell_of_heap HY4.out j) ?_)
    | (go_at_call 13; refine (same_any _ _ _ _ _ _ _ HV4.out HD4.out HX.out).mono ?_; rintro e w5 ⟨rfl, hb⟩; have HB5 := Lib.hid (HB4.out.trans (hb.mono HB4.out.size)); clear hb HV4 HD4))
  go_ret
  exact ⟨rfl, HB5.out⟩
set_option maxRecDepth 100000 in
set_option maxHeartbeats 4000000 in
theorem parses_no (z : Int) (s : ByteArray) (E : Nat) (hE : E ≠ 0) (w : World)
    (H9 : Calls Tryd.prog 9 #[.int .i64 z, .string s] w fun e w' => e = .returned (.tuple #[.nilIface, .int .i64 (E : Nat)]) ∧ Below w.heap.size w w')
    (H12 : ∀ x, Calls Tryd.prog 12 #[.int .i64 z, .string s] x fun e w' => (∃ sc : Array Value, e = .returned (.tuple #[.agg sc, .int .i64 (E : Nat)]) ∧ sc.size = 13 ∧ sc.all (·.oneCell') = true) ∧ Below x.heap.size x w') :
    Calls Tryd.prog 4 #[.int .i64 z, .string s] w fun e w' => e = .returned (.bool true) ∧ Below w.heap.size w w' := by
  have HA := Lib.hid awake_any
  have HP := Lib.hid H9
  have HD := Lib.hid H12
  have e1 : ((E : Int) != 0) = true := by rw [bne_iff_ne]; omega
  have e2 : ((E : Int) == (E : Int)) = true := by simp
  clear H9 H12
  go_enter Tryd.func4, Tryd.ntmps4
  go_wp2_with (first
    | (go_at_call 9; refine HP.out.mono ?_; rintro e w1 ⟨rfl, hb⟩; have HB := Lib.hid hb; clear hb HP)
    | (go_at_call 12; refine (HD.out _).mono ?_; rintro e w2 ⟨⟨cs, rfl, hD1, hD2⟩, hb⟩; have HB2 := Lib.hid (HB.out.trans (hb.mono HB.out.size)); have HON := Lib.hid (And.intro hD1 hD2); clear hD1 hD2 hb HD HB)
    | (refine wpList_freshG rfl 38 _ _ rfl w2.heap.size rfl cs _ rfl rfl (size38 _ HON.out.1) (by rw [HON.out.1]; kernel_rfl) HON.out.2 ?_; intro y hy hby; have HB3 := Lib.hid (HB2.out.trans (hby.mono HB2.out.size)); clear hy hby HB2)
    | (go_at_call 10; refine (HA.out y).mono ?_; rintro e w4 ⟨rfl, hb⟩; have HB4 := Lib.hid (HB3.out.trans (hb.mono HB3.out.size)); clear hb HA HB3))
  go_ret
  exact ⟨rfl, HB4.out⟩
theorem SegParses_any (z : Int) (s : ByteArray) (w : World) (hT : Tab w) : Calls Tryd.prog 4 #[.int .i64 z, .string s] w fun e w' => e = .returned (.bool true) ∧ Below w.heap.size w w' := by
  by_cases h : perr z s = 0
  · refine parses_yes z s (rseg z s).1 (okPS_rseg h) w ((Parse_any z s w hT).mono ?_) fun x => (DParse_any z s x).mono ?_
    · rintro e w' ⟨h1, h2⟩
      rcases h1 with ⟨_, h1⟩ | ⟨h1, _⟩
      · exact ⟨h1, h2⟩
      · exact absurd h h1
    · rintro e w' ⟨h1, h2⟩
      rcases h1 with ⟨_, h1⟩ | ⟨h1, _⟩
      · exact ⟨h1, h2⟩
      · exact absurd h h1
  · refine parses_no z s (perr z s) h w ((Parse_any z s w hT).mono ?_) fun x => (DParse_any z s x).mono ?_
    · rintro e w' ⟨h1, h2⟩
      rcases h1 with ⟨h1, _⟩ | ⟨_, h1⟩
      · exact absurd h1 h
      · exact ⟨h1, h2⟩
    · rintro e w' ⟨h1, h2⟩
      rcases h1 with ⟨h1, _⟩ | ⟨_, h1⟩
      · exact absurd h1 h
      · exact ⟨h1, h2⟩
end Go.Proofs.YtfohgocdabgbgaaDoor
