/- Slices of bits that the document's functions make. -/
import Derived.Test.YtmoennlpendknaaBit
import Derived.Test.YtmoennlpendknaaViews
import Derived.Laws.AppendOwnNone
namespace Go.Proofs.Ytmoennlpendknaa
open Go.RowKit

theorem info3 : (Try.prog.info? 3).map (fun i => (i.zero, i.size, i.bytes)) = some (some (.int .i64 0), 1, 8) := by kernel_rfl
def bitCells (l : List Bool) : List Value := l.map fun b => .int .i64 (b.toNat : Nat)
theorem bitCells_length (l : List Bool) : (bitCells l).length = l.length := by simp [bitCells]
theorem bitCells_append (a b : List Bool) : bitCells (a ++ b) = bitCells a ++ bitCells b := by simp [bitCells]
/-- A slice of bits of the call's own, from block B on. -/
def OwnI (B : Nat) (v : Value) (l : List Bool) (w : World) : Prop := w.ownsRow B 3 1 v l.length (bitCells l)
/-- A slice of bits that lies somewhere. -/
def View (v : Value) (l : List Bool) (w : World) : Prop :=
  ∃ p c, v = .slice p l.length c ∧ ((p = none ∧ c = 0 ∧ l = []) ∨ ∃ b o cur, p = some ⟨b, o, none⟩ ∧ w.heap[b]? = some (.cells cur 3 (0, 0)) ∧ ∀ i (h : i < l.length), cur[o + i]? = some (.int .i64 (l[i].toNat : Nat)))
section
variable {B : Nat} {v : Value} {l : List Bool} {w w' : World}
theorem OwnI.below (h : OwnI B v l w) (hb : Below w.heap.size w w') : OwnI B v l w' := World.ownsRow.kept h (below_grown hb) (by cases v.ownBlock <;> simp)
theorem OwnI.len (h : OwnI B v l w) : ∃ p c, v = .slice p l.length c := by
  rcases h.2 with ⟨rfl, h0⟩ | ⟨g, cap, cur, rfl, _⟩
  · exact ⟨none, 0, by rw [h0]⟩
  · exact ⟨_, _, rfl⟩
theorem OwnI.view (h : OwnI B v l w) : View v l w := by
  rcases h.2 with ⟨rfl, h0⟩ | ⟨g, cap, cur, rfl, _, hg, hn, _, hs, ht⟩
  · have : l = [] := List.eq_nil_of_length_eq_zero h0
    subst this
    exact ⟨none, 0, rfl, .inl ⟨rfl, rfl, rfl⟩⟩
  · refine ⟨_, _, rfl, .inr ⟨g, 0, cur, rfl, hg, fun i hi => ?_⟩⟩
    have e : (cur.toList.take (l.length * 1))[i]? = (bitCells l)[i]? := by rw [ht]
    rw [List.getElem?_take, if_pos (by omega)] at e
    rw [Nat.zero_add, ← Array.getElem?_toList, e]
    simp [bitCells, hi]
theorem View.on (h : View v l w) (hb : Below w.heap.size w w') : View v l w' := by
  obtain ⟨p, c, hv, h0 | ⟨b, o, cur, hp, hh, hc⟩⟩ := h
  · exact ⟨p, c, hv, .inl h0⟩
  · exact ⟨p, c, hv, .inr ⟨b, o, cur, hp, (hb.block b (Array.getElem?_eq_some_iff.1 hh).1).trans hh, hc⟩⟩
/-- Behind a change of one block that is no row of ints. -/
theorem View.but {k : Nat} {cs : Array Value} {t : TypeId} {fz : Nat × Nat} (h : View v l w) (hb : But k w w') (hk : w.heap[k]? = some (.cells cs t fz)) (ht : t ≠ 3) : View v l w' := by
  obtain ⟨p, c, hv, h0 | ⟨b, o, cur, hp, hh, hc⟩⟩ := h
  · exact ⟨p, c, hv, .inl h0⟩
  · refine ⟨p, c, hv, .inr ⟨b, o, cur, hp, (hb.block b ?_ (Array.getElem?_eq_some_iff.1 hh).1).trans hh, hc⟩⟩
    intro e
    rw [e, hk] at hh
    simp only [Option.some.injEq, Obj.cells.injEq] at hh
    exact ht hh.2.1
theorem View.oth {e : TypeId} {k : Option Nat} (h : View v l w) (ho : Lib.OthersKept e k w w') (he : e ≠ 3) (hk : ∀ j, k = some j → ∃ cs t fz, w.heap[j]? = some (.cells cs t fz) ∧ t ≠ 3) : View v l w' := by
  obtain ⟨p, c, hv, h0 | ⟨b, o, cur, hp, hh, hc⟩⟩ := h
  · exact ⟨p, c, hv, .inl h0⟩
  · refine ⟨p, c, hv, .inr ⟨b, o, cur, hp, ho b _ hh ?_ ?_, hc⟩⟩
    · intro e1
      obtain ⟨cs, t, fz, h1, h2⟩ := hk b e1.symm
      rw [h1] at hh
      simp only [Option.some.injEq, Obj.cells.injEq] at hh
      exact h2 hh.2.1
    · intro c fz e1
      simp only [Obj.cells.injEq] at e1
      exact he e1.2.1.symm
theorem View.cell {p : Option Addr} {c i : Nat} (h : View (.slice p l.length c) l w) (hi : i < l.length) : ∃ b o, p = some ⟨b, o, none⟩ ∧ w.cell? ⟨b, o + i, none⟩ = some (.int .i64 (l[i].toNat : Nat)) ∧ b < w.heap.size := by
  obtain ⟨p', c', hv, ⟨_, _, h0⟩ | ⟨b, o, cur, hp, hh, hc⟩⟩ := h
  · subst h0; simp at hi
  · simp only [Value.slice.injEq] at hv
    refine ⟨b, o, by rw [hv.1, hp], ?_, (Array.getElem?_eq_some_iff.1 hh).1⟩
    rw [cell_of_row w b (o + i) cur 3 (0, 0) hh]
    exact hc i hi
end
/-- append(v, x): the new row is the call's own. -/
theorem wpList_appI {ops : Array Oper} {rest : List Oper} {o : Oper} {a : Act} {Q : Exit → Act → World → Prop} {w0 : World} (hgd : o.guard = none) (s x : Operand)
    (ho : o.op = .call { callee := .builtin .append, args := #[s, x], argTypes := #[30, 30] })
    (B : Nat) (v : Value) (acc : List Bool) (z : Int) (b : Bool) (hz : z = (b.toNat : Nat))
    (hs : a.eval s = v) (hx : a.eval x = .slice (some ⟨w0.heap.size, 0, none⟩) 1 1)
    (hown : OwnI B v acc w0) (hlen : acc.length ≤ 1000000) (hB : B ≤ w0.heap.size)
    (h : ∀ v' w', OwnI B v' (acc ++ [b]) w' → Below B w0 w' → Lib.OthersKept 3 none w0 w' → wpList Try.prog ops Q rest (a.put o.dst v') w') :
    wpList Try.prog ops Q (o :: rest) a (w0.alloc (.cells #[.int .i64 z] 3)) := by
  obtain ⟨i0, hi, hz0, hz1, hz2⟩ := info_parts info3
  subst hz
  refine wpList_append_own _ hgd s x 30 ho B 3 i0 (.int .i64 0) 1 8 Try.underlying30 hi hz0 hz1 hz2 rfl (by decide) v acc.length (bitCells acc) hs (World.ownsRow.alloc hown _) ⟨w0.heap.size, 0, none⟩ 1 1 [.int .i64 (b.toNat : Nat)] hx rfl ?_ ?_ (by unfold maxLen; omega) (by omega) (by simp; omega) ?_
  · intro j u hj
    rw [add_none, Nat.zero_add, cell_of_row _ w0.heap.size j _ 3 (0, 0) (heap_alloc_new w0 _)]
    simpa using hj
  · intro u hu
    simp only [List.mem_singleton] at hu
    subst hu
    rfl
  · intro v' w' hown' hg _
    have ho2 := World.ownsRow.alloc hown (.cells #[.int .i64 (b.toNat : Nat)] 3)
    refine h v' w' ?_ (((Below.refl B w0).alloc hB _).grown hg (by simp; omega) (fun k hk => (ho2.lt k hk).1)) (((Lib.OthersKept.refl 3 none w0).alloc _).grown hg (Lib.ownsRow_kind ho2))
    unfold OwnI
    rw [List.length_append, bitCells_append]
    exact hown'
/-- append(v, x...): x is a slice of bits somewhere. -/
theorem wpList_appV {ops : Array Oper} {rest : List Oper} {o : Oper} {a : Act} {Q : Exit → Act → World → Prop} {w0 : World} (hgd : o.guard = none) (s x : Operand)
    (ho : o.op = .call { callee := .builtin .append, args := #[s, x], argTypes := #[30, 30] })
    (B : Nat) (v u : Value) (acc l : List Bool)
    (hs : a.eval s = v) (hx : a.eval x = u)
    (hown : OwnI B v acc w0) (hu : View u l w0) (hlen : acc.length + l.length ≤ 1000000) (hB : B ≤ w0.heap.size)
    (h : ∀ v' w', OwnI B v' (acc ++ l) w' → Below B w0 w' → Lib.OthersKept 3 none w0 w' → wpList Try.prog ops Q rest (a.put o.dst v') w') :
    wpList Try.prog ops Q (o :: rest) a w0 := by
  obtain ⟨i0, hi, hz0, hz1, hz2⟩ := info_parts info3
  obtain ⟨p, c, rfl, ⟨rfl, rfl, rfl⟩ | ⟨b, off, cur, rfl, hh, hc⟩⟩ := hu
  · refine wpList_append_own_none hgd s x 30 ho B 3 i0 1 Try.underlying30 hi v acc.length (bitCells acc) hs hown hx ?_
    exact h v w0 (by rw [List.append_nil]; exact hown) (Below.refl _ _) (Lib.OthersKept.refl _ _ _)
  · refine wpList_append_own _ hgd s x 30 ho B 3 i0 (.int .i64 0) 1 8 Try.underlying30 hi hz0 hz1 hz2 rfl (by decide) v acc.length (bitCells acc) hs hown ⟨b, off, none⟩ l.length c (bitCells l) hx (by rw [bitCells_length, Nat.mul_one]) ?_ ?_ (by unfold maxLen; omega) (by omega) hB ?_
    · intro j u hj
      rw [add_none, cell_of_row w0 b (off + j) cur 3 (0, 0) hh]
      have hjl : j < l.length := by have := (List.getElem?_eq_some_iff.1 hj).1; rwa [bitCells_length] at this
      rw [hc j hjl]
      simp [bitCells, hjl] at hj
      rw [hj]
    · intro u hu
      simp only [bitCells, List.mem_map] at hu
      obtain ⟨b, _, rfl⟩ := hu
      rfl
    · intro v' w' hown' hg _
      refine h v' w' ?_ ((Below.refl B w0).grown hg hB (fun k hk => (World.ownsRow.lt hown k hk).1)) ((Lib.OthersKept.refl 3 none w0).grown hg (Lib.ownsRow_kind hown))
      unfold OwnI
      rw [List.length_append, bitCells_append]
      exact hown'
end Go.Proofs.Ytmoennlpendknaa
