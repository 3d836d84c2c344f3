/- Walks of the document's writer: Put, Mark. -/
import Derived.Test.YtialkpfjllhfkaaRefBytes
import Derived.Test.YtialkpfjllhfkaaPlain3
namespace Go.Proofs.Ytialkpfjllhfkaa
open Go.RowKit

/-- A call by its contract, as one step of a region that draws. -/
theorem step_call {ops : Array Oper} {o : Oper} {a : Act} {w : World} {K : Act → World → Prop} {Q : Exit → Act → World → Prop} {E : Prop} (hgd : o.guard = none) (f : FuncId) (fn : Func) (hf : Try.prog.funcs[f]? = some fn) (hn : (fn.name == "runtime.NumGoroutine") = false) (hb : fn.body.isNone = false)
    (xs : Array Operand) (ts : Array TypeId) (ho : o.op = .call { callee := .value (.func f), args := xs, argTypes := ts }) (args : Array Value) (hx : xs.map a.eval = args) (R : Ending → World → Prop) (hC : Calls Try.prog f args w R)
    (h : ∀ e w', R e w' → ∃ v, e = .returned v ∧ K (a.put o.dst v) w') :
    if Region.wanted o (yielded ops a.tmps) = true then Oper.wp Try.prog o a w K Q else E := by
  have hw : Region.wanted o (yielded ops a.tmps) = true := by simp [Region.wanted, hgd]
  rw [if_pos hw]
  have hrun : (callFunc f args).run Try.prog w = .ok (.enter f args) w := by
    have hn' : ¬ fn.name = "runtime.NumGoroutine" := by simpa using hn
    have hb' : ¬ fn.body = none := fun h => by rw [h] at hb; cases hb
    simp [callFunc, hf, hn', hb', go_sem]
  unfold Oper.wp
  simp [execOp, ho, resolve, invoke, go_sem]
  rw [hx, hrun, Oper.upon_enter]
  refine hC.mono ?_
  intro e w' hr
  obtain ⟨v, rfl, hk⟩ := h e w' hr
  exact hk
/-- append(v, x...), as one step of a region that draws. -/
theorem step_appV {ops : Array Oper} {o : Oper} {a : Act} {w0 : World} {K : Act → World → Prop} {Q : Exit → Act → World → Prop} {E : Prop} (hgd : o.guard = none) (s x : Operand)
    (ho : o.op = .call { callee := .builtin .append, args := #[s, x], argTypes := #[43, 43] })
    (B : Nat) (v u : Value) (acc l : List Bool) (hs : a.eval s = v) (hx : a.eval x = u)
    (hown : OwnI B v acc w0) (hu : View u l w0) (hlen : acc.length + l.length ≤ 1000000) (hB : B ≤ w0.heap.size)
    (h : ∀ v' w', OwnI B v' (acc ++ l) w' → Below B w0 w' → Lib.OthersKept 3 none w0 w' → K (a.put o.dst v') w') :
    if Region.wanted o (yielded ops a.tmps) = true then Oper.wp Try.prog o a w0 K Q else E := by
  have hw : Region.wanted o (yielded ops a.tmps) = true := by simp [Region.wanted, hgd]
  rw [if_pos hw]
  obtain ⟨i0, hi, hz0, hz1, hz2⟩ := info_parts info3
  obtain ⟨p, c, rfl, ⟨rfl, rfl, rfl⟩ | ⟨b, off, cur, rfl, hh, hc⟩⟩ := hu
  · have hrun := run_append_owned_none (P := Try.prog) (w := w0) B 43 o.type 3 i0 1 Try.underlying43 hi v acc.length (bitCells acc) hown
    unfold Oper.wp
    simp [execOp, ho, resolve, invoke, builtin, hs, hx, hrun, Result.andThen]
    exact h v w0 (by rw [List.append_nil]; exact hown) (Below.refl _ _) (Lib.OthersKept.refl _ _ _)
  · refine wp_append_own w0 s x 43 ho B 3 i0 (.int .i64 0) 1 8 Try.underlying43 hi hz0 hz1 hz2 rfl (by decide) v acc.length (bitCells acc) hs hown ⟨b, off, none⟩ l.length c (bitCells l) hx (by rw [bitCells_length, Nat.mul_one]) ?_ ?_ (by unfold maxLen; omega) (by omega) hB ?_
    · intro j u hj
      rw [add_none, cell_of_row w0 b (off + j) cur 3 (0, 0) hh]
      have hjl : j < l.length := by have := (List.getElem?_eq_some_iff.1 hj).1; rwa [bitCells_length] at this
      rw [hc j hjl]
      simp [bitCells, hjl] at hj
      rw [hj]
    · intro u hu
      simp only [bitCells, List.mem_map] at hu
      obtain ⟨b, _, rfl⟩ := hu
      rfl
    · intro v' w' hown' hg _
      refine h v' w' ?_ ((Below.refl B w0).grown hg hB (fun k hk => (World.ownsRow.lt hown k hk).1)) ((Lib.OthersKept.refl 3 none w0).grown hg (Lib.ownsRow_kind hown))
      unfold OwnI
      rw [List.length_append, bitCells_append]
      exact hown'

/-- The document's writer lies in this block. -/
def BoxW (k : Nat) (d : ByteArray) (v : Value) (w : World) : Prop := w.heap[k]? = some (.cells #[.string d, v] 50 (0, 0))
section
variable {k : Nat} {d : ByteArray} {v : Value} {w w' : World}
theorem BoxW.done (h : BoxW k d v w) : w.cell? ⟨k, 0, none⟩ = some (.string d) := by unfold BoxW at h; simp [World.cell?, h]
theorem BoxW.bits (h : BoxW k d v w) : w.cell? ⟨k, 1, none⟩ = some v := by unfold BoxW at h; simp [World.cell?, h]
theorem BoxW.free (h : BoxW k d v w) (o : Nat) : w.frozen? ⟨k, o, none⟩ = false := by unfold BoxW at h; simp [World.frozen?, h]
theorem BoxW.lt (h : BoxW k d v w) : k < w.heap.size := (Array.getElem?_eq_some_iff.1 h).1
theorem BoxW.on (h : BoxW k d v w) (hb : Below w.heap.size w w') : BoxW k d v w' := (hb.block k h.lt).trans h
theorem BoxW.oth {e : TypeId} {j : Option Nat} (h : BoxW k d v w) (ho : Lib.OthersKept e j w w') (he : e ≠ 50) (hj : some k ≠ j) : BoxW k d v w' := ho k _ h hj (fun c fz e1 => by simp only [Obj.cells.injEq] at e1; exact he e1.2.1.symm)
theorem BoxW.set (h : BoxW k d v w) (d' : ByteArray) (v' : Value) : BoxW k d' v' ((w.setCell ⟨k, 0, none⟩ (.string d')).setCell ⟨k, 1, none⟩ v') := by
  unfold BoxW at h ⊢; simp [World.setCell, Array.getElem?_modify, h]
end
theorem below_set2 {B k : Nat} {a w : World} (h : Below B a w) (hk : B ≤ k) (x y : Value) : Below B a ((w.setCell ⟨k, 0, none⟩ x).setCell ⟨k, 1, none⟩ y) :=
  (h.setCell (p := ⟨k, 0, none⟩) hk _).setCell (p := ⟨k, 1, none⟩) hk _
theorem but_set2 {k : Nat} {w : World} (x y : Value) : But k w ((w.setCell ⟨k, 0, none⟩ x).setCell ⟨k, 1, none⟩ y) := ((But.refl k w).setCell 0 x).setCell 1 y

set_option maxHeartbeats 1000000 in
theorem rPut_arg (d : ByteArray) (p : Option Addr) (m c : Nat) (v z : Int) (hz : z < 0 ∨ 16 < z) (w : World) :
    Calls Try.prog 22 #[.agg #[.string d, .slice p m c], .int .i64 v, .int .i64 z] w fun e w' => e = .returned (.tuple #[.agg #[.string d, .slice p m c], .int .i64 1]) ∧ Below w.heap.size w w' := by
  by_cases h1 : z < 0
  · go_enter Try.func22, Try.ntmps22
    go_wp2
    refine bodyPost_ret (v := .tuple #[.agg #[.string d, .slice p m c], .int .i64 1]) (by simp [results, Try.results22, go_sem]) rfl ⟨rfl, ?_⟩
    exact ((Below.refl _ _).alloc (Nat.le_refl _) _).alloc (by simp) _
  · have h2 : 16 < z := by omega
    clear hz
    go_enter Try.func22, Try.ntmps22
    go_wp2
    refine bodyPost_ret (v := .tuple #[.agg #[.string d, .slice p m c], .int .i64 1]) (by simp [results, Try.results22, go_sem]) rfl ⟨rfl, ?_⟩
    exact ((Below.refl _ _).alloc (Nat.le_refl _) _).alloc (by simp) _
end Go.Proofs.Ytialkpfjllhfkaa
