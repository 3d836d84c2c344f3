/- The document's segment: its cells; a scan's beginning, plainly. -/
import Derived.Test.YtfohgocdabgbgaaDoorRPl
import Derived.Test.YtfohgocdabgbgaaDoorSKind
namespace Go.Proofs.YtfohgocdabgbgaaDoor
open Go.RowKit

/-- The cells of the document's segment that is a frame's or a scan's beginning. -/
def sg (z H W : Int) (A B : Value) (f t h l : Int) : Array Value :=
  #[.int .i64 z, .string ⟨#[]⟩, .slice none 0 0, .slice none 0 0, .int .i64 H, .int .i64 W, A, B, .int .i64 f, .int .i64 t, .int .i64 h, .int .i64 l, .int .i64 0]
theorem sg_size (z H W : Int) (A B : Value) (f t h l : Int) : (Tryd.prog.info? 38).map (·.size) = some (sg z H W A B f t h l).size := by
  show _ = some 13
  kernel_rfl
theorem sg_13 (z H W : Int) (A B : Value) (f t h l : Int) : (sg z H W A B f t h l).size = 13 := rfl
theorem sg_one (z H W : Int) (a1 b1 : Option Addr) (a2 a3 b2 b3 : Nat) (f t h l : Int) : (sg z H W (.slice a1 a2 a3) (.slice b1 b2 b3) f t h l).all (·.oneCell') = true := by
  unfold sg
  simp
  refine ⟨rfl, rfl, rfl, rfl, rfl, rfl, rfl, rfl, rfl, rfl, rfl, rfl⟩
theorem sg_set4 (z H W : Int) (A B : Value) (f t h l x : Int) : (sg z H W A B f t h l).setIfInBounds 4 (.int .i64 x) = sg z x W A B f t h l := rfl
theorem sg_get4 (z H W : Int) (A B : Value) (f t h l : Int) : (sg z H W A B f t h l)[4]? = some (.int .i64 H) := rfl
theorem sg_set5 (z H W : Int) (A B : Value) (f t h l x : Int) : (sg z H W A B f t h l).setIfInBounds 5 (.int .i64 x) = sg z H x A B f t h l := rfl
theorem sg_get5 (z H W : Int) (A B : Value) (f t h l : Int) : (sg z H W A B f t h l)[5]? = some (.int .i64 W) := rfl
theorem sg_set8 (z H W : Int) (A B : Value) (f t h l x : Int) : (sg z H W A B f t h l).setIfInBounds 8 (.int .i64 x) = sg z H W A B x t h l := rfl
theorem sg_get8 (z H W : Int) (A B : Value) (f t h l : Int) : (sg z H W A B f t h l)[8]? = some (.int .i64 f) := rfl
theorem sg_set9 (z H W : Int) (A B : Value) (f t h l x : Int) : (sg z H W A B f t h l).setIfInBounds 9 (.int .i64 x) = sg z H W A B f x h l := rfl
theorem sg_get9 (z H W : Int) (A B : Value) (f t h l : Int) : (sg z H W A B f t h l)[9]? = some (.int .i64 t) := rfl
theorem sg_set10 (z H W : Int) (A B : Value) (f t h l x : Int) : (sg z H W A B f t h l).setIfInBounds 10 (.int .i64 x) = sg z H W A B f t x l := rfl
theorem sg_get10 (z H W : Int) (A B : Value) (f t h l : Int) : (sg z H W A B f t h l)[10]? = some (.int .i64 h) := rfl
theorem sg_set11 (z H W : Int) (A B : Value) (f t h l x : Int) : (sg z H W A B f t h l).setIfInBounds 11 (.int .i64 x) = sg z H W A B f t h x := rfl
theorem sg_get11 (z H W : Int) (A B : Value) (f t h l : Int) : (sg z H W A B f t h l)[11]? = some (.int .i64 l) := rfl
theorem sg_set7 (z H W : Int) (A B : Value) (f t h l : Int) (x : Value) : (sg z H W A B f t h l).setIfInBounds 7 x = sg z H W A x f t h l := rfl
theorem sg_set6 (z H W : Int) (A B : Value) (f t h l : Int) (x : Value) : (sg z H W A B f t h l).setIfInBounds 6 x = sg z H W x B f t h l := rfl
theorem info118 : (Tryd.prog.info? 118).map (fun i => (i.zero, i.size, i.bytes)) = some (some (.agg (cellsK (0, 0, 0))), 3, 24) := by kernel_rfl
theorem info79 : (Tryd.prog.info? 79).map (fun i => (i.zero, i.size, i.bytes)) = some (some (.agg (cellsP (0, 0, 0, 0))), 4, 32) := by kernel_rfl

/-- The segment in its block, the result's block, the list so far. -/
structure SG {α : Type} (T : TypeId) (n : Nat) (cs : α → Array Value) (sc : Array Value) (u : Value) (l : List α) (w wr : World) : Prop where
  own : OwnR T n cs w.heap.size u l wr
  seg : wr.heap[w.heap.size]? = some (.cells sc 38 (0, 0))
  res : ∃ Z : Array Value, Z.size = 13 ∧ wr.heap[w.heap.size + 1]? = some (.cells Z 38 (0, 0))
  low : Below w.heap.size w wr
section
variable {α : Type} {T : TypeId} {n : Nat} {cs : α → Array Value} {sc : Array Value} {u : Value} {l : List α} {w wr : World}
theorem SG.start (sc Z : Array Value) (hZ : Z.size = 13) : SG T n cs sc (.slice none 0 0) [] w ((w.alloc (.cells sc 38)).alloc (.cells Z 38)) := by
  refine ⟨OwnR.nil, ?_, ⟨Z, hZ, ?_⟩, (below_new _ _).alloc (by rw [size_alloc]; omega) _⟩
  · rw [Below.heap_alloc _ _ _ (by rw [size_alloc]; omega)]
    exact heap_alloc_new _ _
  · have h := heap_alloc_new (w.alloc (.cells sc 38)) (.cells Z 38)
    rw [size_alloc] at h
    exact h
theorem SG.free (h : SG T n cs sc u l w wr) (i : Nat) : wr.frozen? ⟨w.heap.size, i, none⟩ = false := frozen_of_row wr _ i _ 38 h.seg
theorem SG.get (h : SG T n cs sc u l w wr) (i : Nat) : wr.cell? ⟨w.heap.size, i, none⟩ = sc[i]? := cell_of_row wr _ i _ 38 (0, 0) h.seg
theorem SG.set (h : SG T n cs sc u l w wr) (hT : T ≠ 38) {i : Nat} {v : Value} {sc' : Array Value} (he : sc.setIfInBounds i v = sc') : SG T n cs sc' u l w (wr.setCell ⟨w.heap.size, i, none⟩ v) := by
  obtain ⟨Z, hZ, hr⟩ := h.res
  refine ⟨h.own.setCell h.seg hT, by rw [heap_setCell_same _ _ _ _ _ _ h.seg, he], ⟨Z, hZ, ?_⟩, h.low.setCell (p := ⟨_, _, none⟩) (Nat.le_refl _) _⟩
  rw [heap_setCell_other _ _ _ _ (by show w.heap.size + 1 ≠ w.heap.size; omega)]
  exact hr
/-- Something was appended. -/
theorem SG.app {v' : Value} {l' : List α} {w' : World} (h : SG T n cs sc u l w wr) (hT : T ≠ 38) (ho : OwnR T n cs w.heap.size v' l' w') (hb : Below w.heap.size wr w') (hk : Lib.OthersKept T none wr w') : SG T n cs sc v' l' w w' := by
  obtain ⟨Z, hZ, hr⟩ := h.res
  refine ⟨ho, hk _ _ h.seg (by simp) ?_, ⟨Z, hZ, hk _ _ hr (by simp) ?_⟩, h.low.trans hb⟩
  all_goals
    intro c f e
    simp only [Obj.cells.injEq] at e
    exact absurd e.2.1.symm hT
theorem SG.frame {w' : World} (h : SG T n cs sc u l w wr) (hb : Below wr.heap.size wr w') : SG T n cs sc u l w w' := by
  obtain ⟨Z, hZ, hr⟩ := h.res
  exact ⟨h.own.on hb, by rw [hb.block _ (Array.getElem?_eq_some_iff.1 h.seg).1]; exact h.seg, ⟨Z, hZ, by rw [hb.block _ (Array.getElem?_eq_some_iff.1 hr).1]; exact hr⟩, h.low.trans (hb.mono h.low.size)⟩
end
/-- The loading of the segment, the storing of the result, and what is returned. -/
theorem wpList_retS {α : Type} {T : TypeId} {n : Nat} {cs : α → Array Value} {sc : Array Value} {u : Value} {l : List α} {w wr : World} (h : SG T n cs sc u l w wr) (hs : sc.size = 13) (h1 : sc.all (·.oneCell') = true)
    {ops : Array Oper} {rest : List Oper} {o : Oper} {a : Act} {Q : Exit → Act → World → Prop} (hgd : o.guard = none) (x y : Operand) (ho : o.op = .store 38 x y) (hx : a.eval x = .pointer (some ⟨w.heap.size + 1, 0, none⟩)) (hy : a.eval y = .agg sc)
    (hk : ∀ w', w'.heap[w.heap.size + 1]? = some (.cells sc 38 (0, 0)) → (T ≠ 38 → OwnR T n cs w.heap.size u l w') → Below w.heap.size w w' → wpList Tryd.prog ops Q rest (a.put o.dst undef) w') : wpList Tryd.prog ops Q (o :: rest) a wr := by
  obtain ⟨Z, hZ, hr⟩ := h.res
  have hi : (Tryd.prog.info? 38).map (·.size) = some sc.size := by rw [hs]; kernel_rfl
  refine wpList_store_row hgd 38 x y ho (w.heap.size + 1) _ hx hy 38 Z hr hi (hZ.trans hs.symm) h1 (hk _ (setRow_heap _ _ _ _ 38 (0, 0) hr) (fun hT => ?_) (below_setRow h.low (by omega) _))
  refine h.own.two (k := w.heap.size + 1) (c := w.heap.size + 1) ⟨rfl, rfl, rfl, by rw [setRow_size]; exact Nat.le_refl _, fun j j1 _ _ => setRow_other _ _ _ _ j1⟩ hr hr hT hT
theorem wp_store_int {o : Oper} {a : Act} {w : World} {K : Act → World → Prop} {Q : Exit → Act → World → Prop} (x y : Operand) (ho : o.op = .store 3 x y) (hd : o.dst = none) (p : Addr) (z : Int) (old : Value)
    (hx : a.eval x = .pointer (some p)) (hy : a.eval y = .int .i64 z) (hc : w.cell? p = some old) (hf : w.frozen? p = false) (h : K a (w.setCell p (.int .i64 z))) : o.wp Tryd.prog a w K Q := by
  unfold Oper.wp execOp
  simp only [ho, hx, hy, Instr.storeAt, Instr.sureAddr, Sem.run_bind, Sem.run_pure, Result.andThen_ok, storeVar]
  simp [go_sem, hc, hf, stored]
  rw [hd]
  exact h
/-- A number is stored in one of the segment's cells: a letter for the world behind. -/
theorem wpList_setS {α : Type} {T : TypeId} {n : Nat} {cs : α → Array Value} {sc : Array Value} {u : Value} {l : List α} {w wr : World} (h : SG T n cs sc u l w wr) (hT : T ≠ 38)
    {ops : Array Oper} {rest : List Oper} {o : Oper} {a : Act} {Q : Exit → Act → World → Prop} (hgd : o.guard = none) (x y : Operand) (ho : o.op = .store 3 x y) (hd : o.dst = none) (i : Nat) (z : Int) (sc' : Array Value) (he : sc.setIfInBounds i (.int .i64 z) = sc') (old : Value) (hi : sc[i]? = some old)
    (hx : a.eval x = .pointer (some ⟨w.heap.size, i, none⟩)) (hy : a.eval y = .int .i64 z)
    (hk : ∀ w', SG T n cs sc' u l w w' → wpList Tryd.prog ops Q rest a w') : wpList Tryd.prog ops Q (o :: rest) a wr :=
  wpList_plain hgd fun _ hK => wp_store_int x y ho hd ⟨w.heap.size, i, none⟩ z old hx hy ((h.get i).trans hi) (h.free i) (hK _ _ (by rw [hd] at *; exact hk _ (h.set hT he)))
theorem size38 (sc : Array Value) (h : sc.size = 13) : (Tryd.prog.info? 38).map (·.size) = some sc.size := by rw [h]; kernel_rfl

/-- Plainly: a scan's components. -/
theorem rpair_err {s : ByteArray} {p : Nat × Nat} (h : p.2 ≠ 0) : rpair s p = ((0, 0), p) := by
  unfold rpair
  rw [rnum_err h]
  simp
theorem rpair_out {s : ByteArray} {t : Nat} (h : rnum s 1 (t, 0) = (0, (t, 4))) : rpair s (t, 0) = ((0, 0), (t, 4)) := by
  unfold rpair
  rw [h]
  simp
theorem rpair_in {s : ByteArray} {t n : Nat} (h : rnum s 1 (t, 0) = (n, (t + 1, 0))) : rpair s (t, 0) = ((n / 16, n % 16), (t + 1, 0)) := by
  unfold rpair
  rw [h]
section
variable {s : ByteArray} {q : Nat × Nat} {k t n m : Nat} {l : List KT}
theorem rpk_err {e : Nat} (h : (rpk s q k).2.2 = e) (he : e ≠ 0) : (rpk s q (k + 1)).2 = (rpk s q k).2 := by
  have h0 : (rpk s q k).2.2 ≠ 0 := by rw [h]; exact he
  conv => lhs; unfold rpk
  simp only []
  rw [rnum_err h0, rneed_err h0, rpair_err h0, rneed_err h0]
theorem rpk_stop {e : Nat} (h : (rpk s q k).2.2 = e) (he : e ≠ 0) : ∀ K, k ≤ K → (rpk s q K).2.2 = e := by
  intro K hK
  induction K with
  | zero => rw [Nat.le_zero.1 hK] at h; exact h
  | succ K ih =>
    by_cases e1 : k = K + 1
    · rw [← e1]; exact h
    · have := ih (by omega)
      rw [rpk_err this he]
      exact this
theorem rpk_1 (h : rpk s q k = (l, (t, 0))) (hn : rnum s 1 (t, 0) = (0, (t, 4))) : (rpk s q (k + 1)).2.2 = 4 := by
  unfold rpk
  simp only []
  rw [h, hn, rneed_err (by show (4:Nat) ≠ 0; decide), rpair_err (by show (4:Nat) ≠ 0; decide), rneed_err (by show (4:Nat) ≠ 0; decide)]
theorem rpk_2 (h : rpk s q k = (l, (t, 0))) (hn : rnum s 1 (t, 0) = (n, (t + 1, 0))) (ha : aheadK l (n : Nat) = true) : (rpk s q (k + 1)).2.2 = 8 := by
  unfold rpk
  simp only []
  rw [h, hn, ha, show (!true) = false from rfl, rneed_no rfl, rpair_err (by show (8:Nat) ≠ 0; decide), rneed_err (by show (8:Nat) ≠ 0; decide)]
theorem rpk_3 (h : rpk s q k = (l, (t, 0))) (hn : rnum s 1 (t, 0) = (n, (t + 1, 0))) (ha : aheadK l (n : Nat) = false) (hm : rnum s 1 (t + 1, 0) = (0, (t + 1, 4))) : (rpk s q (k + 1)).2.2 = 4 := by
  unfold rpk
  simp only []
  rw [h, hn, ha, show (!false) = true from rfl, rneed_yes, rpair_out hm, rneed_err (by show (4:Nat) ≠ 0; decide)]
theorem rpk_4 (h : rpk s q k = (l, (t, 0))) (hn : rnum s 1 (t, 0) = (n, (t + 1, 0))) (ha : aheadK l (n : Nat) = false) (hm : rnum s 1 (t + 1, 0) = (m, (t + 2, 0))) (hb : 3 < m / 16 ∨ 3 < m % 16) : (rpk s q (k + 1)).2.2 = 8 := by
  unfold rpk
  simp only []
  rw [h, hn, ha, show (!false) = true from rfl, rneed_yes, rpair_in hm]
  simp only []
  rw [show (decide (m / 16 ≤ 3) && decide (m % 16 ≤ 3)) = false by rw [Bool.and_eq_false_iff, decide_eq_false_iff_not, decide_eq_false_iff_not]; omega, rneed_no rfl]
theorem rpk_5 (h : rpk s q k = (l, (t, 0))) (hn : rnum s 1 (t, 0) = (n, (t + 1, 0))) (ha : aheadK l (n : Nat) = false) (hm : rnum s 1 (t + 1, 0) = (m, (t + 2, 0))) (h1 : m / 16 ≤ 3) (h2 : m % 16 ≤ 3) : rpk s q (k + 1) = (l ++ [(((n : Nat) : Int), ((m / 16 : Nat) : Int), ((m % 16 : Nat) : Int))], (t + 2, 0)) := by
  conv => lhs; unfold rpk
  simp only []
  rw [h, hn, ha, show (!false) = true from rfl, rneed_yes, rpair_in hm]
  simp only []
  rw [show (decide (m / 16 ≤ 3) && decide (m % 16 ≤ 3)) = true by rw [decide_eq_true h1, decide_eq_true h2]; rfl, rneed_yes]
theorem rtail_err {p : Nat × Nat} (h : p.2 ≠ 0) : (rtail s p).2 = p := by
  unfold rtail
  simp only []
  rw [rnum_err h, rnum_err h, rpair_err h, rneed_err h, rneed_err h]
theorem rtail_out {p : Nat} (h : s.size < p + 3) (hp : p ≤ s.size) : (rtail s (p, 0)).2.2 = 4 := by
  unfold rtail
  simp only []
  by_cases h1 : p < s.size
  · rw [rnum_one' h1]
    simp only []
    by_cases h2 : p + 1 < s.size
    · rw [rnum_one' h2, rpair_out (rnum_out (by omega) (by omega))]
      rw [rneed_err (by show (4:Nat) ≠ 0; decide), rneed_err (by show (4:Nat) ≠ 0; decide)]
    · rw [rnum_out (by omega) (by omega), rpair_err (by show (4:Nat) ≠ 0; decide), rneed_err (by show (4:Nat) ≠ 0; decide), rneed_err (by show (4:Nat) ≠ 0; decide)]
  · rw [rnum_out (by omega) hp, rnum_err (by show (4:Nat) ≠ 0; decide), rpair_err (by show (4:Nat) ≠ 0; decide), rneed_err (by show (4:Nat) ≠ 0; decide), rneed_err (by show (4:Nat) ≠ 0; decide)]
theorem rtail_in {p : Nat} (h : p + 2 < s.size) : rtail s (p, 0) = ((s[p].toNat, s[p + 1].toNat, s[p + 2].toNat / 16, s[p + 2].toNat % 16), if s[p].toNat ≤ s[p + 1].toNat ∧ s[p + 1].toNat ≤ 63 ∧ s[p + 2].toNat / 16 ≤ 13 ∧ s[p + 2].toNat % 16 ≤ 13 then (p + 3, 0) else (p + 3, 8)) := by
  unfold rtail
  simp only []
  rw [rnum_one' (show p < s.size by omega)]
  simp only []
  rw [rnum_one' (show p + 1 < s.size by omega)]
  simp only []
  rw [rpair_in (rnum_one' (show p + 1 + 1 < s.size by omega))]
  simp only []
  congr 1
  by_cases a1 : s[p].toNat ≤ s[p + 1].toNat ∧ s[p + 1].toNat ≤ 63
  · rw [decide_eq_true a1.1, decide_eq_true a1.2, show (true && true) = true from rfl, rneed_yes]
    by_cases a2 : s[p + 2].toNat / 16 ≤ 13 ∧ s[p + 2].toNat % 16 ≤ 13
    · rw [decide_eq_true a2.1, decide_eq_true a2.2, show (true && true) = true from rfl, rneed_yes, if_pos ⟨a1.1, a1.2, a2.1, a2.2⟩]
    · rw [if_neg (fun h => a2 ⟨h.2.2.1, h.2.2.2⟩), show (decide (s[p + 1 + 1].toNat / 16 ≤ 13) && decide (s[p + 1 + 1].toNat % 16 ≤ 13)) = false by rw [Bool.and_eq_false_iff, decide_eq_false_iff_not, decide_eq_false_iff_not]; exact Decidable.not_and_iff_or_not.1 a2, rneed_no rfl]
  · rw [if_neg (fun h => a1 ⟨h.1, h.2.1⟩), show (decide (s[p].toNat ≤ s[p + 1].toNat) && decide (s[p + 1].toNat ≤ 63)) = false by rw [Bool.and_eq_false_iff, decide_eq_false_iff_not, decide_eq_false_iff_not]; exact Decidable.not_and_iff_or_not.1 a1, rneed_no rfl, rneed_err (by show (8:Nat) ≠ 0; decide)]
end
/-- The error of a scan's beginning that must end where the body ends. -/
def escan (s : ByteArray) : Nat := (rneed (decide (s.size - (rscan s (0, 0)).2.1 = 0)) 4 (rscan s (0, 0)).2).2
theorem escan_err {s : ByteArray} {e : Nat} (h : (rscan s (0, 0)).2.2 = e) (he : e ≠ 0) : escan s = e := by
  unfold escan
  rw [rneed_err (by rw [h]; exact he)]
  exact h
theorem rscan_out {s : ByteArray} (h : ¬ 0 < s.size) : escan s = 4 := by
  refine escan_err ?_ (by decide)
  unfold rscan
  simp only []
  rw [rnum_out (show s.size < 0 + 1 by omega) (Nat.zero_le _), rneed_err (by show (4:Nat) ≠ 0; decide)]
  rw [rtail_err (by show (4:Nat) ≠ 0; decide)]
  rfl
theorem rscan_bad {s : ByteArray} (h : 0 < s.size) (hb : s[0].toNat < 1 ∨ 4 < s[0].toNat) : escan s = 8 := by
  refine escan_err ?_ (by decide)
  unfold rscan
  simp only []
  rw [rnum_one' h, show (decide (1 ≤ s[0].toNat) && decide (s[0].toNat ≤ 4)) = false by rw [Bool.and_eq_false_iff, decide_eq_false_iff_not, decide_eq_false_iff_not]; omega, rneed_no rfl]
  simp only []
  have h8 : (rpk s (1, 8) s[0].toNat).2.2 = 8 := rpk_stop (k := 0) (e := 8) rfl (by decide) _ (Nat.zero_le _)
  rw [show (0 + 1 : Nat) = 1 from rfl, rtail_err (by rw [h8]; decide)]
  exact h8
theorem rscan_in {s : ByteArray} (h : 0 < s.size) (h1 : 1 ≤ s[0].toNat) (h4 : s[0].toNat ≤ 4) : rscan s (0, 0) = (((rpk s (1, 0) s[0].toNat).1, (rtail s (rpk s (1, 0) s[0].toNat).2).1), (rtail s (rpk s (1, 0) s[0].toNat).2).2) := by
  unfold rscan
  simp only []
  rw [rnum_one' h, show (decide (1 ≤ s[0].toNat) && decide (s[0].toNat ≤ 4)) = true by rw [decide_eq_true h1, decide_eq_true h4]; rfl, rneed_yes]
end Go.Proofs.YtfohgocdabgbgaaDoor
