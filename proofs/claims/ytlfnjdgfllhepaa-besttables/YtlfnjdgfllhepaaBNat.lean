/- Slices of ints that the document's functions make. -/
import Derived.Test.YtlfnjdgfllhepaaBTable
import Derived.Test.YtlfnjdgfllhepaaViews
import Derived.Laws.AppendOwnNone
import Derived.Test.YtlfnjdgfllhepaaBRefP
namespace Go.Proofs.Ytlfnjdgfllhepaa
open Go.RowKit

theorem infoI3 : (Try.prog.info? 3).map (fun i => (i.zero, i.size, i.bytes)) = some (some (.int .i64 0), 1, 8) := by kernel_rfl

theorem natCells_append (a b : List Nat) : natCells (a ++ b) = natCells a ++ natCells b := by simp [natCells]
/-- A slice of bits that lies somewhere. -/
def ViewN (v : Value) (l : List Nat) (w : World) : Prop :=
  ∃ p c, v = .slice p l.length c ∧ ((p = none ∧ c = 0 ∧ l = []) ∨ ∃ b o cur, p = some ⟨b, o, none⟩ ∧ w.heap[b]? = some (.cells cur 3 (0, 0)) ∧ ∀ i (h : i < l.length), cur[o + i]? = some (.int .i64 (l[i] : Nat)))
section
variable {B : Nat} {v : Value} {l : List Nat} {w w' : World}
theorem OwnN.view (h : OwnN B v l w) : ViewN v l w := by
  rcases h.2 with ⟨rfl, h0⟩ | ⟨g, cap, cur, rfl, _, hg, hn, _, hs, ht⟩
  · have : l = [] := List.eq_nil_of_length_eq_zero h0
    subst this
    exact ⟨none, 0, rfl, .inl ⟨rfl, rfl, rfl⟩⟩
  · refine ⟨_, _, rfl, .inr ⟨g, 0, cur, rfl, hg, fun i hi => ?_⟩⟩
    have e : (cur.toList.take (l.length * 1))[i]? = (natCells l)[i]? := by rw [ht]
    rw [List.getElem?_take, if_pos (by omega)] at e
    rw [Nat.zero_add, ← Array.getElem?_toList, e]
    simp [natCells, hi]
theorem ViewN.on (h : ViewN v l w) (hb : Below w.heap.size w w') : ViewN v l w' := by
  obtain ⟨p, c, hv, h0 | ⟨b, o, cur, hp, hh, hc⟩⟩ := h
  · exact ⟨p, c, hv, .inl h0⟩
  · exact ⟨p, c, hv, .inr ⟨b, o, cur, hp, (hb.block b (Array.getElem?_eq_some_iff.1 hh).1).trans hh, hc⟩⟩
/-- Behind a change of one block that is no row of ints. -/
theorem ViewN.but {k : Nat} {cs : Array Value} {t : TypeId} {fz : Nat × Nat} (h : ViewN v l w) (hb : But k w w') (hk : w.heap[k]? = some (.cells cs t fz)) (ht : t ≠ 3) : ViewN v l w' := by
  obtain ⟨p, c, hv, h0 | ⟨b, o, cur, hp, hh, hc⟩⟩ := h
  · exact ⟨p, c, hv, .inl h0⟩
  · refine ⟨p, c, hv, .inr ⟨b, o, cur, hp, (hb.block b ?_ (Array.getElem?_eq_some_iff.1 hh).1).trans hh, hc⟩⟩
    intro e
    rw [e, hk] at hh
    simp only [Option.some.injEq, Obj.cells.injEq] at hh
    exact ht hh.2.1
theorem ViewN.oth {e : TypeId} {k : Option Nat} (h : ViewN v l w) (ho : Lib.OthersKept e k w w') (he : e ≠ 3) (hk : ∀ j, k = some j → ∃ cs t fz, w.heap[j]? = some (.cells cs t fz) ∧ t ≠ 3) : ViewN v l w' := by
  obtain ⟨p, c, hv, h0 | ⟨b, o, cur, hp, hh, hc⟩⟩ := h
  · exact ⟨p, c, hv, .inl h0⟩
  · refine ⟨p, c, hv, .inr ⟨b, o, cur, hp, ho b _ hh ?_ ?_, hc⟩⟩
    · intro e1
      obtain ⟨cs, t, fz, h1, h2⟩ := hk b e1.symm
      rw [h1] at hh
      simp only [Option.some.injEq, Obj.cells.injEq] at hh
      exact h2 hh.2.1
    · intro c fz e1
      simp only [Obj.cells.injEq] at e1
      exact he e1.2.1.symm
theorem ViewN.cell {p : Option Addr} {c i : Nat} (h : ViewN (.slice p l.length c) l w) (hi : i < l.length) : ∃ b o, p = some ⟨b, o, none⟩ ∧ w.cell? ⟨b, o + i, none⟩ = some (.int .i64 (l[i] : Nat)) ∧ b < w.heap.size := by
  obtain ⟨p', c', hv, ⟨_, _, h0⟩ | ⟨b, o, cur, hp, hh, hc⟩⟩ := h
  · subst h0; simp at hi
  · simp only [Value.slice.injEq] at hv
    refine ⟨b, o, by rw [hv.1, hp], ?_, (Array.getElem?_eq_some_iff.1 hh).1⟩
    rw [cell_of_row w b (o + i) cur 3 (0, 0) hh]
    exact hc i hi
end
/-- append(v, x...): x is a slice of bits somewhere. -/
theorem wpList_appVN {ops : Array Oper} {rest : List Oper} {o : Oper} {a : Act} {Q : Exit → Act → World → Prop} {w0 : World} (hgd : o.guard = none) (s x : Operand)
    (ho : o.op = .call { callee := .builtin .append, args := #[s, x], argTypes := #[62, 62] })
    (B : Nat) (v u : Value) (acc l : List Nat)
    (hs : a.eval s = v) (hx : a.eval x = u)
    (hown : OwnN B v acc w0) (hu : ViewN u l w0) (hlen : acc.length + l.length ≤ 1000000) (hB : B ≤ w0.heap.size)
    (h : ∀ v' w', OwnN B v' (acc ++ l) w' → Below B w0 w' → Lib.OthersKept 3 none w0 w' → wpList Try.prog ops Q rest (a.put o.dst v') w') :
    wpList Try.prog ops Q (o :: rest) a w0 := by
  obtain ⟨i0, hi, hz0, hz1, hz2⟩ := info_parts infoI3
  obtain ⟨p, c, rfl, ⟨rfl, rfl, rfl⟩ | ⟨b, off, cur, rfl, hh, hc⟩⟩ := hu
  · refine wpList_append_own_none hgd s x 62 ho B 3 i0 1 Try.underlying62 hi v acc.length (natCells acc) hs hown hx ?_
    exact h v w0 (by rw [List.append_nil]; exact hown) (Below.refl _ _) (Lib.OthersKept.refl _ _ _)
  · refine wpList_append_own _ hgd s x 62 ho B 3 i0 (.int .i64 0) 1 8 Try.underlying62 hi hz0 hz1 hz2 rfl (by decide) v acc.length (natCells acc) hs hown ⟨b, off, none⟩ l.length c (natCells l) hx (by rw [natCells_length, Nat.mul_one]) ?_ ?_ (by unfold maxLen; omega) (by omega) hB ?_
    · intro j u hj
      rw [add_none, cell_of_row w0 b (off + j) cur 3 (0, 0) hh]
      have hjl : j < l.length := by have := (List.getElem?_eq_some_iff.1 hj).1; rwa [natCells_length] at this
      rw [hc j hjl]
      simp [natCells, hjl] at hj
      rw [hj]
    · intro u hu
      simp only [natCells, List.mem_map] at hu
      obtain ⟨b, _, rfl⟩ := hu
      rfl
    · intro v' w' hown' hg _
      refine h v' w' ?_ ((Below.refl B w0).grown hg hB (fun k hk => (World.ownsRow.lt hown k hk).1)) ((Lib.OthersKept.refl 3 none w0).grown hg (Lib.ownsRow_kind hown))
      unfold OwnN
      rw [List.length_append, natCells_append]
      exact hown'
end Go.Proofs.Ytlfnjdgfllhepaa
