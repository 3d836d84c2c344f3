/- The program's Table. -/
import Derived.Test.YtlfnjdgfllhepaaBSymb
import Derived.Test.YtlfnjdgfllhepaaBTabP
import Derived.ChangeKeysEq
namespace Go.Proofs.Ytlfnjdgfllhepaa
open Go.RowKit

theorem run_part_ints (w : World) (N : Nat) (f : Nat → Int) {i : Nat} (hi : i < N) : (part 3 (ints N f) i).run Try.prog w = .ok (.int .i64 (f i)) w := by
  unfold part isAgg
  simp only [Sem.run_bind, run_underlying Try.underlying3, Result.andThen_ok, Sem.run_pure, Bool.false_eq_true, if_false, ints_at f hi]
theorem run_eqItems_ints (d N : Nat) (f g : Nat → Int) : ∀ (is : List Nat) (w : World), (∀ i ∈ is, i < N) → (Op.eqItems (d + 1) 3 1 (ints N f) (ints N g) is).run Try.prog w = .ok (is.all fun i => f i == g i) w
  | [], w, _ => by simp [Op.eqItems]
  | i :: is, w, h => by
    have hi := h i (by simp)
    have ih := run_eqItems_ints d N f g is w fun j hj => h j (by simp [hj])
    simp only [Op.eqItems, Sem.run_bind, Nat.mul_one, run_part_ints w N f hi, run_part_ints w N g hi, Result.andThen_ok, run_equalIn_int w d 3 .i64 .i64 _ _ Try.underlying3, List.all_cons]
    by_cases e : f i = g i
    · simpa [e] using ih
    · simp [e]
theorem info3 : ∃ i, Try.prog.info? 3 = some i := Option.isSome_iff_exists.1 (by kernel_rfl)
theorem run_equal_ints (w : World) (t : TypeId) (N : Nat) (hu : Try.prog.underlying t = some (.array N 3)) (f g : Nat → Int) (R : Bool) (hR : R = (List.range N).all fun i => f i == g i) :
    (Op.equalIn 10000 t (.agg (ints N f)) (.agg (ints N g))).run Try.prog w = .ok R w := by
  obtain ⟨i, hi⟩ := info3
  rw [show (10000 : Nat) = 9998 + 1 + 1 from rfl, run_equalIn_array w (9998 + 1) _ _ hu hi, cells3, hR]
  exact run_eqItems_ints 9998 N f g _ w fun j hj => by simpa using hj
theorem built22 : Try.prog.built 22 [] = some (ints 256 fun _ => 0) := by kernel_rfl
theorem built23 : Try.prog.built 23 [] = some (cnt fun _ => 0) := by kernel_rfl
theorem wpList_zero22 {ops : Array Oper} {rest : List Oper} {o : Oper} {a : Act} {w : World} {Q : Exit → Act → World → Prop} (hg : o.guard = none) (ho : o.op = .build 22 #[])
    (h : wpList Try.prog ops Q rest (a.put o.dst (.agg (ints 256 fun _ => 0))) w) : wpList Try.prog ops Q (o :: rest) a w := by
  have e : Try.prog.built 22 ((#[] : Array (Nat × Operand)).map fun (i, x) => (i, a.eval x)).toList = some (ints 256 fun _ => 0) := by simp only [List.map_toArray, List.map_nil]; exact built22
  refine wpList_build hg 22 _ ho (by rw [e]; rfl) ?_
  rw [e]
  exact h
theorem wpList_zero23 {ops : Array Oper} {rest : List Oper} {o : Oper} {a : Act} {w : World} {Q : Exit → Act → World → Prop} (hg : o.guard = none) (ho : o.op = .build 23 #[])
    (h : wpList Try.prog ops Q rest (a.put o.dst (.agg (cnt fun _ => 0))) w) : wpList Try.prog ops Q (o :: rest) a w := by
  have e : Try.prog.built 23 ((#[] : Array (Nat × Operand)).map fun (i, x) => (i, a.eval x)).toList = some (cnt fun _ => 0) := by simp only [List.map_toArray, List.map_nil]; exact built23
  refine wpList_build hg 23 _ ho (by rw [e]; rfl) ?_
  rw [e]
  exact h
theorem results_row3 {fn : Func} {p x y : Tmp} {ty : TypeId} (h : fn.results = #[.cell p ty, .tmp x, .tmp y]) (tmps : Array Value) (w : World) (g : Nat) (cs : Array Value) (vx vy : Value)
    (hp : tmps.getD p undef = .pointer (some ⟨g, 0, none⟩)) (hx : tmps.getD x undef = vx) (hy : tmps.getD y undef = vy) (hl : (loadVar ty ⟨g, 0, none⟩).run Try.prog w = .ok (.agg cs) w) :
    (results fn tmps).run Try.prog w = .ok (.tuple #[.agg cs, vx, vy]) w := by
  have hp' : tmps[p]?.getD undef = .pointer (some ⟨g, 0, none⟩) := by simpa using hp
  have hx' : tmps[x]?.getD undef = vx := by simpa using hx
  have hy' : tmps[y]?.getD undef = vy := by simpa using hy
  simp [results, h, hp', hx', hy', asAddr, hl]
end Go.Proofs.Ytlfnjdgfllhepaa
