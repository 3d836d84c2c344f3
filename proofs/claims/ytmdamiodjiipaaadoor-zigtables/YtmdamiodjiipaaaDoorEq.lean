/- Two blocks that are the same are equal; a whole row loaded in a drawn region, stored into a new one. -/
import Derived.Test.YtmdamiodjiipaaaDoorSmall
import Derived.ChangeKeysEq
import Derived.Deep.DeepCutAuto
namespace Go.Proofs.YtmdamiodjiipaaaDoor
open Go.RowKit

section
variable {P : Program}
theorem run_part_blk (w : World) (e : TypeId) (K K' : IntKind) (f : Nat → Int) (he : P.underlying e = some (.int K')) {i : Nat} (hi : i < 64) : (part e (blk K f) i).run P w = .ok (.int K (f i)) w := by
  unfold part isAgg
  simp only [Sem.run_bind, run_underlying he, Result.andThen_ok, Sem.run_pure, Bool.false_eq_true, if_false, blk_at K f i hi]
theorem run_eqItems_blk (d : Nat) (e : TypeId) (K K' : IntKind) (f : Nat → Int) (he : P.underlying e = some (.int K')) : ∀ (is : List Nat) (w : World), (∀ i ∈ is, i < 64) → (Op.eqItems (d + 1) e 1 (blk K f) (blk K f) is).run P w = .ok true w
  | [], w, _ => by simp [Op.eqItems]
  | i :: is, w, h => by
    have hi := h i (by simp)
    have ih := run_eqItems_blk d e K K' f he is w fun j hj => h j (by simp [hj])
    simp only [Op.eqItems, Sem.run_bind, Nat.mul_one, run_part_blk w e K K' f he hi, Result.andThen_ok, run_equalIn_int w d e K K' _ _ he]
    simpa using ih
theorem run_equal_blk (w : World) (t e : TypeId) (K K' : IntKind) (f : Nat → Int) {i : TypeInfo} (hu : P.underlying t = some (.array 64 e)) (he : P.underlying e = some (.int K')) (hi : P.info? e = some i) (hc : P.cellsOf e = 1) :
    (Op.equalIn 10000 t (.agg (blk K f)) (.agg (blk K f))).run P w = .ok true w := by
  rw [show (10000 : Nat) = 9998 + 1 + 1 from rfl, run_equalIn_array w (9998 + 1) _ _ hu hi, hc]
  exact run_eqItems_blk 9998 e K K' f he _ w fun j hj => by simpa using hj

theorem wpQuiet_load_row {ops : Array Oper} {C : World → Prop} {Q : Act → Prop} {rest : List Oper} {o : Oper} {a : Act} (ty : TypeId) (x : Operand) (ho : o.op = .load ty x) (hw : Region.wanted o (yielded ops a.tmps) = true)
    (g : Nat) (hx : a.eval x = .pointer (some ⟨g, 0, none⟩)) (t : TypeId) (cs : Array Value) (fr : Nat × Nat) (d : TypeDesc) (hg : ∀ w, C w → w.heap[g]? = some (.cells cs t fr))
    (hu : P.underlying ty = some d) (hd : (match d with | .struct _ | .array _ _ => true | _ => false) = true) (hi : (P.info? ty).map (·.size) = some cs.size)
    (h : wpQuiet P ops C Q rest (a.put o.dst (.agg cs))) : wpQuiet P ops C Q (o :: rest) a := by
  unfold wpQuiet
  rw [if_pos hw]
  refine ⟨.agg cs, fun w hC => ?_, h⟩
  unfold Oper.quietAt execOp
  simp only [ho, hx, Instr.loadAt, Instr.sureAddr, Sem.run_bind, Sem.run_pure, Result.andThen_ok, run_loadVar_row w g t ty cs fr d (hg w hC) hu hd hi]
  exact ⟨rfl, rfl⟩

theorem wpList_store_fresh {ops : Array Oper} {rest : List Oper} {o : Oper} {a : Act} {w : World} {Q : Exit → Act → World → Prop} (K : IntKind) (f : Nat → Int) (c : Array Value) (hgd : o.guard = none) (ty : TypeId) (x y : Operand) (ho : o.op = .store ty x y)
    (hx : a.eval x = .pointer (some ⟨w.heap.size, 0, none⟩)) (hy : a.eval y = .agg (blk K f)) (hi : (P.info? ty).map (·.size) = some (blk K f).size) (hold : c.size = 64)
    (h : ∀ w', Row ty K w.heap.size f w' → Below w.heap.size w w' → wpList P ops Q rest (a.put o.dst undef) w') : wpList P ops Q (o :: rest) a (w.alloc (.cells c ty)) :=
  wpList_store_row hgd ty x y ho w.heap.size _ hx hy ty c (heap_alloc_new _ _) hi (hold.trans (blk_size _ _).symm) (blk_one _ _) (h _ Row.fresh below_fresh)
end

/-- A world that lies over 'w'. -/
structure Bel (w : World) where
  W : World
  h : Below w.heap.size w W
theorem nonempty_bel (w : World) : Nonempty (Bel w) := ⟨⟨w, Below.refl _ _⟩⟩
theorem bel_of {P : Program} {f : FuncId} {args : Array Value} {w : World} {x : Bel w} {v : Value} (h : Calls P f args x.W fun e w' => e = .returned v ∧ Below x.W.heap.size x.W w') : Calls P f args x.W fun e w'' => e = .returned v ∧ ∃ y : Bel w, w'' = y.W :=
  h.mono fun _ w' ⟨he, hb⟩ => ⟨he, ⟨w', x.h.trans (hb.mono x.h.size)⟩, rfl⟩
theorem bel_same {P : Program} {f : FuncId} {args : Array Value} {w : World} {x : Bel w} {v : Value} (h : Calls P f args x.W fun e w' => e = .returned v ∧ x.W = w') : Calls P f args x.W fun e w'' => e = .returned v ∧ ∃ y : Bel w, w'' = y.W :=
  h.mono fun _ _ ⟨he, hb⟩ => ⟨he, x, hb.symm⟩
theorem wp_region_bel {P : Program} {id : Nat} {Q : Exit → Act → World → Prop} {a : Act} {w W : World} {l : List Oper} (hb : Below w.heap.size w W) (hm : P.follows .mixedOrders = true) (hB : Region.lexB .any l.toArray = true)
    (h : wpQuiet P l.toArray (fun W' => ∃ x : Bel w, W' = x.W) (fun a' => ∀ W', (∃ x : Bel w, W' = x.W) → Q .normal a' W') l a) : (Code.region id l.toArray true).wp P Q a W :=
  wp_region_quiet (C := fun W' => ∃ x : Bel w, W' = x.W) hm hB ⟨⟨_, hb.drew⟩, rfl⟩ (by simpa using h)
theorem bel_row {t : TypeId} {K : IntKind} {g : Nat} {f : Nat → Int} {w : World} (h : Row t K g f w) : ∀ W, (∃ x : Bel w, W = x.W) → W.heap[g]? = some (.cells (blk K f) t (0, 0)) := by
  rintro W ⟨x, rfl⟩
  exact h.on x.h
theorem Tab.bel {w : World} (h : Tab w) (x : Bel w) : Tab x.W := h.on x.h

theorem info22 : ∃ i, Tryd.prog.info? 22 = some i := Option.isSome_iff_exists.1 (by kernel_rfl)
theorem cells22 : Tryd.prog.cellsOf 22 = 1 := by kernel_rfl
theorem info32 : ∃ i, Tryd.prog.info? 32 = some i := Option.isSome_iff_exists.1 (by kernel_rfl)
theorem cells32 : Tryd.prog.cellsOf 32 = 1 := by kernel_rfl
theorem eq23 (f g : Nat → Int) (h : ∀ i, i < 64 → f i = g i) (w : World) : (Op.equalIn 10000 23 (.agg (blk .i16 f)) (.agg (blk .i16 g))).run Tryd.prog w = .ok true w := by
  obtain ⟨i, hi⟩ := info22
  rw [blk_congr h]
  exact run_equal_blk w 23 22 .i16 .i16 g Tryd.underlying23 Tryd.underlying22 hi cells22
theorem eq33 (f g : Nat → Int) (h : ∀ i, i < 64 → f i = g i) (w : World) : (Op.equalIn 10000 33 (.agg (blk .u16 f)) (.agg (blk .u16 g))).run Tryd.prog w = .ok true w := by
  obtain ⟨i, hi⟩ := info32
  rw [blk_congr h]
  exact run_equal_blk w 33 32 .u16 .u16 g Tryd.underlying33 Tryd.underlying32 hi cells32
theorem guard23 : Tryd.prog.eqGuardType Tryd.prog.depth 23 = false := by kernel_rfl
theorem guard33 : Tryd.prog.eqGuardType Tryd.prog.depth 33 = false := by kernel_rfl
end Go.Proofs.YtmdamiodjiipaaaDoor
