/- Slices of ints that a call owns; what is kept. -/
import Derived.Test.YtlfnjdgfllhepaaHCode
import Derived.Test.YtlfnjdgfllhepaaViews
import Derived.Lib.Strings
namespace Go.Proofs.Ytlfnjdgfllhepaa
open Go.RowKit

theorem getD_at (s : ByteArray) (i : Nat) (h : i < s.size) : s.data.toList.getD i 0 = s[i] := by
  rw [List.getD_eq_getElem?_getD, bytes_at s i h]; rfl
section
variable {w w' : World} {k : Nat} {cs : Array Value} {t : TypeId} {fz : Nat × Nat}
theorem kept_but {r : Nat} {cs' : Array Value} {t' : TypeId} {fz' : Nat × Nat} (h : w.heap[k]? = some (.cells cs t fz)) (hr : w.heap[r]? = some (.cells cs' t' fz')) (hne : t ≠ t') (hb : But r w w') : w'.heap[k]? = some (.cells cs t fz) := by
  refine (hb.block k ?_ (Array.getElem?_eq_some_iff.1 h).1).trans h
  rintro rfl
  rw [h] at hr
  simp only [Option.some.injEq, Obj.cells.injEq] at hr
  exact hne hr.2.1
theorem kept_oth {j : Nat} {e : TypeId} {cs' : Array Value} {t' : TypeId} {fz' : Nat × Nat} (h : w.heap[k]? = some (.cells cs t fz)) (hj : w.heap[j]? = some (.cells cs' t' fz')) (hne : t ≠ t') (he : t ≠ e) (ho : Lib.OthersKept e (some j) w w') : w'.heap[k]? = some (.cells cs t fz) := by
  refine ho k _ h ?_ ?_
  · intro e1
    cases e1
    rw [h] at hj
    simp only [Option.some.injEq, Obj.cells.injEq] at hj
    exact hne hj.2.1
  · intro c f e1
    simp only [Obj.cells.injEq] at e1
    exact he e1.2.1
theorem kept_oth0 {e : TypeId} (h : w.heap[k]? = some (.cells cs t fz)) (he : t ≠ e) (ho : Lib.OthersKept e none w w') : w'.heap[k]? = some (.cells cs t fz) := by
  refine ho k _ h (by simp) ?_
  intro c f e1
  simp only [Obj.cells.injEq] at e1
  exact he e1.2.1
end
theorem WB.cells {B k : Nat} {D : List UInt8} {L : List Bool} {w : World} (h : WB B k D L w) : ∃ cs, w.heap[k]? = some (.cells cs 69 (0, 0)) := by
  obtain ⟨_, v, hv, _⟩ := h
  exact ⟨_, hv⟩
theorem WB.othI {B k : Nat} {w w' : World} {D : List UInt8} {T : List Bool} (h : WB B k D T w) (ho : Lib.OthersKept 3 none w w') : WB B k D T w' := by
  obtain ⟨h1, v, hv, hown⟩ := h
  refine ⟨h1, v, kept_oth0 hv (by decide) ho, hown.1, ?_⟩
  rcases hown.2 with h0 | ⟨g, cap, cur, hv, hb, hh, r⟩
  · exact .inl h0
  · exact .inr ⟨g, cap, cur, hv, hb, kept_oth0 hh (by decide) ho, r⟩

theorem info3n : (Try.prog.info? 3).map (fun i => (i.zero, i.size, i.bytes)) = some (some (.int .i64 0), 1, 8) := by kernel_rfl
def natCells (l : List Nat) : List Value := l.map fun n => .int .i64 (n : Nat)
theorem natCells_length (l : List Nat) : (natCells l).length = l.length := by simp [natCells]
/-- A slice of ints of the call's own, from block B on. -/
def OwnN (B : Nat) (v : Value) (l : List Nat) (w : World) : Prop := w.ownsRow B 3 1 v l.length (natCells l)
section
variable {B : Nat} {v : Value} {l : List Nat} {w w' : World}
theorem OwnN.below (h : OwnN B v l w) (hb : Below w.heap.size w w') : OwnN B v l w' := World.ownsRow.kept h (below_grown hb) (by cases v.ownBlock <;> simp)
theorem OwnN.len (h : OwnN B v l w) : ∃ p c, v = .slice p l.length c := by
  rcases h.2 with ⟨rfl, h0⟩ | ⟨g, cap, cur, rfl, _⟩
  · exact ⟨none, 0, by rw [h0]⟩
  · exact ⟨_, _, rfl⟩
theorem OwnN.oth {k : Nat} {D : List UInt8} {T : List Bool} {B' : Nat} (h : OwnN B v l w) (hw : WB B' k D T w) (ho : Lib.OthersKept 5 (some k) w w') : OwnN B v l w' := by
  obtain ⟨cs, hcs⟩ := hw.cells
  refine ⟨h.1, ?_⟩
  rcases h.2 with h0 | ⟨g, cap, cur, hv, hb, hh, r⟩
  · exact .inl h0
  · exact .inr ⟨g, cap, cur, hv, hb, kept_oth hh hcs (by decide) (by decide) ho, r⟩
theorem OwnN.cell {p : Option Addr} {c j : Nat} (h : OwnN B (.slice p l.length c) l w) (hj : j < l.length) :
    ∃ q, p = some ⟨q, 0, none⟩ ∧ ∀ W, OwnN B (.slice p l.length c) l W → W.cell? ⟨q, j, none⟩ = some (.int .i64 (l[j] : Nat)) := by
  rcases h.2 with ⟨h0, h1⟩ | ⟨q, cap', cur, h0, _⟩
  · omega
  · obtain ⟨rfl, rfl⟩ : p = some ⟨q, 0, none⟩ ∧ c = cap' := by simpa using h0
    refine ⟨q, rfl, fun W hW => ?_⟩
    have h0 := World.ownsRow.cells hW (g := q) rfl j (.int .i64 (l[j] : Nat)) (by simp [natCells, hj])
    rw [add_none, Nat.zero_add] at h0
    exact h0
end
/-- append(v, x): the new row is the call's own. -/
theorem wpList_appN {ops : Array Oper} {rest : List Oper} {o : Oper} {a : Act} {Q : Exit → Act → World → Prop} {w0 : World} (hgd : o.guard = none) (s x : Operand)
    (ho : o.op = .call { callee := .builtin .append, args := #[s, x], argTypes := #[62, 62] })
    (B : Nat) (v : Value) (acc : List Nat) (n : Nat)
    (hs : a.eval s = v) (hx : a.eval x = .slice (some ⟨w0.heap.size, 0, none⟩) 1 1)
    (hown : OwnN B v acc w0) (hlen : acc.length ≤ 1000000) (hB : B ≤ w0.heap.size)
    (h : ∀ v' w', OwnN B v' (acc ++ [n]) w' → Below B w0 w' → Lib.OthersKept 3 none w0 w' → wpList Try.prog ops Q rest (a.put o.dst v') w') :
    wpList Try.prog ops Q (o :: rest) a (w0.alloc (.cells #[.int .i64 (n : Nat)] 3)) := by
  obtain ⟨i0, hi, hz0, hz1, hz2⟩ := info_parts info3n
  refine wpList_append_own _ hgd s x 62 ho B 3 i0 (.int .i64 0) 1 8 Try.underlying62 hi hz0 hz1 hz2 rfl (by decide) v acc.length (natCells acc) hs (World.ownsRow.alloc hown _) ⟨w0.heap.size, 0, none⟩ 1 1 [.int .i64 (n : Nat)] hx rfl ?_ ?_ (by unfold maxLen; omega) (by omega) (by simp; omega) ?_
  · intro j u hj
    rw [add_none, Nat.zero_add, cell_of_row _ w0.heap.size j _ 3 (0, 0) (heap_alloc_new w0 _)]
    simpa using hj
  · intro u hu
    simp only [List.mem_singleton] at hu
    subst hu
    rfl
  · intro v' w' hown' hg _
    have ho2 := World.ownsRow.alloc hown (.cells #[.int .i64 (n : Nat)] 3)
    refine h v' w' ?_ (((Below.refl B w0).alloc hB _).grown hg (by simp; omega) (fun k hk => (ho2.lt k hk).1)) (((Lib.OthersKept.refl 3 none w0).alloc _).grown hg (Lib.ownsRow_kind ho2))
    unfold OwnN
    rw [List.length_append, show natCells (acc ++ [n]) = natCells acc ++ [.int .i64 (n : Nat)] by simp [natCells]]
    exact hown'

/-- A world that lies over 'w'. -/
structure Bel (w : World) where
  W : World
  h : Below w.heap.size w W
theorem nonempty_bel (w : World) : Nonempty (Bel w) := ⟨⟨w, Below.refl _ _⟩⟩
theorem bel_of {P : Program} {f : FuncId} {args : Array Value} {w : World} {x : Bel w} {v : Value} (h : Calls P f args x.W fun e w' => e = .returned v ∧ Below x.W.heap.size x.W w') : Calls P f args x.W fun e w'' => e = .returned v ∧ ∃ y : Bel w, w'' = y.W :=
  h.mono fun _ w' ⟨he, hb⟩ => ⟨he, ⟨w', x.h.trans (hb.mono x.h.size)⟩, rfl⟩
theorem bel_same {P : Program} {f : FuncId} {args : Array Value} {w : World} {x : Bel w} {v : Value} (h : Calls P f args x.W fun e w' => e = .returned v ∧ x.W = w') : Calls P f args x.W fun e w'' => e = .returned v ∧ ∃ y : Bel w, w'' = y.W :=
  h.mono fun _ _ ⟨he, hb⟩ => ⟨he, x, hb.symm⟩
theorem wp_region_bel {P : Program} {id : Nat} {Q : Exit → Act → World → Prop} {a : Act} {w W : World} {l : List Oper} (hb : Below w.heap.size w W) (hm : P.follows .mixedOrders = true) (hB : Region.lexB .any l.toArray = true)
    (h : wpQuiet P l.toArray (fun W' => ∃ x : Bel w, W' = x.W) (fun a' => ∀ W', (∃ x : Bel w, W' = x.W) → Q .normal a' W') l a) : (Code.region id l.toArray true).wp P Q a W :=
  wp_region_quiet (C := fun W' => ∃ x : Bel w, W' = x.W) hm hB ⟨⟨_, hb.drew⟩, rfl⟩ (by simpa using h)
theorem wpQuiet_counts {ops : Array Oper} {C : World → Prop} {Q : Act → Prop} {rest : List Oper} {o : Oper} {a : Act} (x : Operand) (ho : o.op = .load 23 x) (hw : Region.wanted o (yielded ops a.tmps) = true)
    (g : Nat) (hx : a.eval x = .pointer (some ⟨g, 0, none⟩)) (c : Nat → Nat) (hg : ∀ w, C w → RowC g c w)
    (h : wpQuiet Try.prog ops C Q rest (a.put o.dst (.agg (cnt c)))) : wpQuiet Try.prog ops C Q (o :: rest) a := by
  unfold wpQuiet
  rw [if_pos hw]
  refine ⟨.agg (cnt c), fun w hC => ?_, h⟩
  unfold Oper.quietAt execOp
  simp only [ho, hx, Instr.loadAt, Instr.sureAddr, Sem.run_bind, Sem.run_pure, Result.andThen_ok, run_loadVar_row w g 23 23 (cnt c) (0, 0) _ (hg w hC) Try.underlying23 rfl (size22 c)]
  exact ⟨rfl, rfl⟩
theorem bel_row {g : Nat} {c : Nat → Nat} {w : World} (h : RowC g c w) : ∀ W, (∃ x : Bel w, W = x.W) → RowC g c W := by
  rintro W ⟨x, rfl⟩
  exact h.on x.h

end Go.Proofs.Ytlfnjdgfllhepaa
