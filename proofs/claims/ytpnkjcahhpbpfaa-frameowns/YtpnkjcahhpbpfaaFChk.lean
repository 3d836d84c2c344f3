/- Walks of package frame: Grid, check. -/
import Derived.Test.YtpnkjcahhpbpfaaFGrid
namespace Go.Proofs.Ytpnkjcahhpbpfaa
open Go.RowKit

/-- A component's grid, and whether it is one. -/
def gridAt (l : List GT) (z : Int) : GT := if h : 0 ≤ z ∧ z.toNat < l.length then l[z.toNat] else (0, 0, 0, 0)
set_option maxHeartbeats 2000000 in
theorem Grid_any (k a d H V : Nat) (p v : Value) (lp : List FP) (l : List GT) (hl : l.length ≤ 4) (hpl : lp.length = l.length) (z : Int) (w : World) (h : Fr k a d H V p v w) (hp : RowV 2 cellsF p lp w) (hv : RowV 4 cellsG v l w) :
    Calls Try.prog 11 #[.pointer (some ⟨k, 0, none⟩), .int .i64 z] w fun e w' => e = .returned (.tuple #[.agg (cellsG (gridAt l z)), .bool (decide (0 ≤ z) && decide (z < (l.length : Int)))]) ∧ Below w.heap.size w w' := by
  obtain ⟨p1, m, c, rfl, hm⟩ := hp.shape
  obtain ⟨p2, m2, c2, rfl, hm2⟩ := hv.shape
  have hmm : m = l.length := hm.out.trans hpl
  have HV := Lib.hid hv
  have HMM := Lib.hid hmm
  have hb := below_new w (.cells (cellsG (0, 0, 0, 0)) 34)
  have hF := h.on hb
  have x5 := hF.c5
  have HW := Lib.hid fun W (hW : Fr k a d H V (.slice p1 m c) (.slice p2 m2 c2) W) => has_any k a d H V p1 m c (.slice p2 m2 c2) z W hW
  have HF := Lib.hid hF
  have HB := Lib.hid hb
  have HR : Hid ((w.alloc (.cells (cellsG (0, 0, 0, 0)) 34)).heap[w.heap.size]? = some (.cells (cellsG (0, 0, 0, 0)) 34 (0, 0))) := heap_alloc_new _ _
  have HM2 := Lib.hid hm2.out
  have hVW := HV.out.on cellsG_size hb
  have HVW := Lib.hid hVW
  unfold gridAt
  by_cases h0 : 0 ≤ z ∧ z < (l.length : Int)
  · have hz : z.toNat < l.length := by omega
    rw [dif_pos ⟨h0.1, hz⟩, decide_eq_true h0.1, decide_eq_true h0.2]
    have e1 : (decide (0 ≤ z) && decide (z < (m : Int))) = true := by rw [hmm, decide_eq_true h0.1, decide_eq_true h0.2]; rfl
    rw [e1] at HW
    obtain ⟨j, rfl⟩ : ∃ j : Nat, z = (j : Int) := ⟨z.toNat, by omega⟩
    have hj : j < l.length := by omega
    obtain ⟨b, o, c', hvv, hbl, hc⟩ := hVW.lies (by omega)
    simp only [Value.slice.injEq] at hvv
    obtain ⟨rfl, hy1, hy2⟩ := hvv
    obtain ⟨g0, g1, g2, g3⟩ := grid_cells hc hj
    have hjm : (j : Int) < (m2 : Int) := by omega
    have HX : Hid ((l[((j : Nat) : Int).toNat]'hz) = l[j]) := by unfold Hid; congr 1
    rw [HX.out]
    generalize hX : l[j] = X at *
    obtain ⟨X0, X1, X2, X3⟩ := X
    simp only [] at g0 g1 g2 g3
    clear HX
    clear hX hc hbl hy1 hy2 hz hj e1 h0 hv hp h hm hm2 hmm hpl hl hb hF hVW
    go_enter Try.func11, Try.ntmps11
    go_wp2_with (first
      | (go_at_call 23; refine (HW.out _ HF.out).mono ?_; rintro e w2 ⟨rfl, rfl⟩; clear HW)
      | refine wpList_store_row rfl 34 _ _ rfl w.heap.size (cellsG (X0, X1, X2, X3)) rfl rfl 34 (cellsG (0, 0, 0, 0)) HR.out (size34 _) rfl (cellsG_one _) ?_)
    refine bodyPost_ret_by (results_row_tmp rfl _ _ w.heap.size _ rfl (run_loadVar_row _ w.heap.size 34 34 _ (0, 0) _ (setRow_heap _ _ _ _ 34 (0, 0) HR.out) Try.underlying34 rfl (size34 _)) _ rfl) rfl ⟨rfl, below_setRow HB.out (Nat.le_refl _) _⟩
  · have e1 : (decide (0 ≤ z) && decide (z < (m : Int))) = false := by
      rw [hmm, Bool.and_eq_false_iff, decide_eq_false_iff_not, decide_eq_false_iff_not]
      omega
    have e2 : (decide (0 ≤ z) && decide (z < (l.length : Int))) = false := by rw [← hmm]; exact e1
    rw [dif_neg (by omega), e2]
    rw [e1] at HW
    clear h0 hv hp h hm hm2 hmm hpl hl hb hF hVW e1 e2 x5
    go_enter Try.func11, Try.ntmps11
    go_wp2_with (first
      | (go_at_call 23; refine (HW.out _ HF.out).mono ?_; rintro e w2 ⟨rfl, rfl⟩; clear HW)
      | refine wpList_store_row rfl 34 _ _ rfl w.heap.size (cellsG (0, 0, 0, 0)) rfl rfl 34 (cellsG (0, 0, 0, 0)) HR.out (size34 _) rfl (cellsG_one _) ?_)
    refine bodyPost_ret_by (results_row_tmp rfl _ _ w.heap.size _ rfl (run_loadVar_row _ w.heap.size 34 34 _ (0, 0) _ (setRow_heap _ _ _ _ 34 (0, 0) HR.out) Try.underlying34 rfl (size34 _)) _ rfl) rfl ⟨rfl, below_setRow HB.out (Nat.le_refl _) _⟩
/-- Why sides and factors are refused, blocks aside; 0, if they are not. -/
def chk (x y : Int) (l : List FP) : Nat :=
  if x < 1 ∨ y < 1 ∨ l.length = 0 ∨ l.any wrongP = true then 7
  else if 16384 < x ∨ 16384 < y then 11
  else if 4 < l.length ∨ (1 < l.length ∧ 10 < sumP l) then 12 else 0
end Go.Proofs.Ytpnkjcahhpbpfaa
