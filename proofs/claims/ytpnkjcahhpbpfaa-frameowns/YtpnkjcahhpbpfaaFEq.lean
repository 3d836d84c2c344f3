/- Structs compared; a load of a whole struct, guarded too. -/
import Derived.Test.YtpnkjcahhpbpfaaFLay
import Derived.ChangeKeysEq
import Derived.Deep.DeepCutAuto
namespace Go.Proofs.Ytpnkjcahhpbpfaa
open Go.RowKit

theorem eqFields_one (d : Nat) (xs ys : Array Value) (f : Field) (fs : List Field) (hn : (f.name != "_") = true) (t : TypeId) (i : Nat) (h : (f.type, f.offset) = (t, i)) (a b : Value) (r : Bool) (w : World)
    (ha : (part t xs i).run Try.prog w = .ok a w) (hb : (part t ys i).run Try.prog w = .ok b w) (hr : (Op.equalIn d t a b).run Try.prog w = .ok r w) (q : Bool) (hq : (Op.eqFields d xs ys fs).run Try.prog w = .ok q w) :
    (Op.eqFields d xs ys (f :: fs)).run Try.prog w = .ok (r && q) w := by
  simp only [Prod.mk.injEq] at h
  obtain ⟨h1, h2⟩ := h
  have hn' : f.name ≠ "_" := by simpa using hn
  simp only [Op.eqFields, hn', ne_eq, not_false_eq_true, if_true, Sem.run_bind, h1, h2, ha, hb, hr, Result.andThen_ok]
  cases r
  · simp
  · simpa using hq
/-- All fields: a list of what each says. -/
theorem eqFields_all (d : Nat) (xs ys : Array Value) (w : World) : ∀ (fs : List Field) (l : List ((TypeId × Nat) × Bool)), fs.all (fun f => f.name != "_") = true → fs.map (fun f => (f.type, f.offset)) = l.map (·.1) →
    (∀ x ∈ l, ∃ a b, (part x.1.1 xs x.1.2).run Try.prog w = .ok a w ∧ (part x.1.1 ys x.1.2).run Try.prog w = .ok b w ∧ (Op.equalIn d x.1.1 a b).run Try.prog w = .ok x.2 w) →
    (Op.eqFields d xs ys fs).run Try.prog w = .ok (l.all (·.2)) w
  | [], [], _, _, _ => by simp [Op.eqFields]
  | [], _ :: _, _, h, _ => by simp at h
  | _ :: _, [], _, h, _ => by simp at h
  | f :: fs, x :: l, hn, h, hx => by
    simp only [List.all_cons, Bool.and_eq_true] at hn
    simp only [List.map_cons, List.cons.injEq] at h
    obtain ⟨a, b, h1, h2, h3⟩ := hx x (by simp)
    exact eqFields_one d xs ys f fs hn.1 x.1.1 x.1.2 h.1 a b x.2 w h1 h2 h3 _ (eqFields_all d xs ys w fs l hn.2 h.2 fun y hy => hx y (by simp [hy]))
theorem int3 {d : Nat} (a b : Int) (w : World) : (Op.equalIn (d + 1) 3 (.int .i64 a) (.int .i64 b)).run Try.prog w = .ok (a == b) w := run_equalIn_int w d 3 .i64 _ a b Try.underlying3
theorem part3 (xs : Array Value) (i : Nat) (v : Value) (h : xs[i]? = some v) (w : World) : (part 3 xs i).run Try.prog w = .ok v w :=
  run_part_plain w (by simp [Program.plainKey, Try.underlying3]) h
theorem run_load_at {t : TypeId} {d : TypeDesc} (hu : Try.prog.underlying t = some d) (hd : (match d with | .struct _ | .array _ _ => true | _ => false) = true) {g o : Nat} {c : Array Value} (hi : (Try.prog.info? t).map (·.size) = some c.size) {w : World}
    (hc : ∀ j, j < c.size → w.cell? ⟨g, o + j, none⟩ = c[j]?) : (loadVar t ⟨g, o, none⟩).run Try.prog w = .ok (.agg c) w := by
  have hl : (loadCells ⟨g, o, none⟩ c.toList.length).run Try.prog w = .ok c.toList.toArray w :=
    run_loadCells_list (P := Try.prog) w ⟨g, o, none⟩ c.toList (fun j v hv => by
      have hj : j < c.size := by have := (List.getElem?_eq_some_iff.1 hv).1; simpa using this
      rw [add_none, hc j hj]
      simpa using hv)
  cases hq : Try.prog.info? t with
  | none => simp [hq] at hi
  | some i =>
    have hs : i.size = c.size := by simpa [hq] using hi
    have hagg : (isAgg t).run Try.prog w = .ok true w := by
      unfold isAgg
      rw [Sem.run_bind, run_underlying hu w]
      cases d <;> simp_all
    simp only [Array.length_toList, Array.toArray_toList] at hl
    simp [loadVar, Sem.run_bind, hagg, sizeOf, typeInfo, hq, hs, hl]
/-- As wpList_load_at, at a guarded operation that is wanted. -/
theorem wpList_load_w {ops : Array Oper} {rest : List Oper} {o : Oper} {a : Act} {w : World} {Q : Exit → Act → World → Prop} (hw : Region.wanted o (yielded ops a.tmps) = true) (t : TypeId) (x : Operand) (ho : o.op = .load t x) {d : TypeDesc} (hu : Try.prog.underlying t = some d) (hd : (match d with | .struct _ | .array _ _ => true | _ => false) = true)
    (g i : Nat) (hx : a.eval x = .pointer (some ⟨g, i, none⟩)) (c : Array Value) (hi : (Try.prog.info? t).map (·.size) = some c.size)
    (hc : ∀ j, j < c.size → w.cell? ⟨g, i + j, none⟩ = c[j]?) (h : wpList Try.prog ops Q rest (a.put o.dst (.agg c)) w) : wpList Try.prog ops Q (o :: rest) a w := by
  unfold wpList
  rw [if_pos hw]
  refine .inl ?_
  unfold Oper.wp execOp
  simp only [ho, hx, Instr.loadAt, Instr.sureAddr, Sem.run_bind, Sem.run_pure, Result.andThen_ok, run_load_at hu hd hi hc]
  exact h
/-- A load of an aggregate in a region that only reads. -/
theorem wpQuiet_load_at {ops : Array Oper} {C : World → Prop} {Q : Act → Prop} {rest : List Oper} {o : Oper} {a : Act} (ty : TypeId) (x : Operand) (ho : o.op = .load ty x) (hw : Region.wanted o (yielded ops a.tmps) = true) {d : TypeDesc} (hu : Try.prog.underlying ty = some d) (hd : (match d with | .struct _ | .array _ _ => true | _ => false) = true)
    (g i : Nat) (hx : a.eval x = .pointer (some ⟨g, i, none⟩)) (cs : Array Value) (hi : (Try.prog.info? ty).map (·.size) = some cs.size) (hg : ∀ w, C w → ∀ j, j < cs.size → w.cell? ⟨g, i + j, none⟩ = cs[j]?)
    (h : wpQuiet Try.prog ops C Q rest (a.put o.dst (.agg cs))) : wpQuiet Try.prog ops C Q (o :: rest) a := by
  unfold wpQuiet
  rw [if_pos hw]
  refine ⟨.agg cs, fun w hC => ?_, h⟩
  unfold Oper.quietAt execOp
  simp only [ho, hx, Instr.loadAt, Instr.sureAddr, Sem.run_bind, Sem.run_pure, Result.andThen_ok, run_load_at hu hd hi (hg w hC)]
  exact ⟨rfl, rfl⟩
theorem guard34 : Try.prog.eqGuardType Try.prog.depth 34 = false := by kernel_rfl
theorem eqG (a b : GT) : ∃ r, (∀ w, (Op.equalIn 10000 34 (.agg (cellsG a)) (.agg (cellsG b))).run Try.prog w = .ok r w) ∧ (r = true ↔ cellsG a = cellsG b) := by
  refine ⟨([((3, 0), (a.1 : Int) == (b.1 : Int)), ((3, 1), (a.2.1 : Int) == (b.2.1 : Int)), ((3, 2), (a.2.2.1 : Int) == (b.2.2.1 : Int)), ((3, 3), (a.2.2.2 : Int) == (b.2.2.2 : Int))] : List ((TypeId × Nat) × Bool)).all (·.2), fun w => ?_, by simp [cellsG]⟩
  rw [show (10000 : Nat) = 9997 + 1 + 1 + 1 from rfl, run_equalIn_struct w (9997 + 1 + 1) 34 _ _ (by kernel_rfl) (by kernel_rfl)]
  refine eqFields_all _ _ _ w _ _ (by kernel_rfl) (by kernel_rfl) ?_
  intro x hx
  simp only [List.mem_cons, List.not_mem_nil, or_false] at hx
  rcases hx with rfl | rfl | rfl | rfl
  · exact ⟨_, _, part3 _ 0 _ rfl w, part3 _ 0 _ rfl w, int3 _ _ w⟩
  · exact ⟨_, _, part3 _ 1 _ rfl w, part3 _ 1 _ rfl w, int3 _ _ w⟩
  · exact ⟨_, _, part3 _ 2 _ rfl w, part3 _ 2 _ rfl w, int3 _ _ w⟩
  · exact ⟨_, _, part3 _ 3 _ rfl w, part3 _ 3 _ rfl w, int3 _ _ w⟩
theorem self_G (a : GT) (w : World) : (Op.equalIn 10000 34 (.agg (cellsG a)) (.agg (cellsG a))).run Try.prog w = .ok true w := by
  obtain ⟨r, h, hr⟩ := eqG a a
  rw [h w, hr.2 rfl]
theorem size34G (x : GT) : (Try.prog.info? 34).map (·.size) = some (cellsG x).size := by kernel_rfl
end Go.Proofs.Ytpnkjcahhpbpfaa
