/- Slices of calls that a call owns; what is kept. -/
import Derived.Test.YtialkpfjllhfkaaPlain4
import Derived.Test.YtialkpfjllhfkaaViews
import Derived.Lib.Strings
namespace Go.Proofs.Ytialkpfjllhfkaa
open Go.RowKit

theorem info28 : (Try.prog.info? 28).map (fun i => (i.zero, i.size, i.bytes)) = some (some (.agg #[.int .u8 0, .int .i64 0, .int .i64 0]), 3, 24) := by kernel_rfl
def cellsC (a : Call3) : List Value := [.int .u8 (a.1 : Nat), .int .i64 a.2.1, .int .i64 a.2.2]
def actCells (l : List Call3) : List Value := l.flatMap cellsC
theorem actCells_length : ∀ l : List Call3, (actCells l).length = l.length * 3
  | [] => rfl
  | a :: l => by
    have := actCells_length l
    simp only [actCells, List.flatMap_cons, List.length_append, List.length_cons] at this ⊢
    rw [this]
    simp [cellsC]
    omega
theorem actCells_at : ∀ (l : List Call3) (j : Nat) (h : j < l.length), (actCells l)[j * 3]? = some (.int .u8 (l[j].1 : Nat)) ∧ (actCells l)[j * 3 + 1]? = some (.int .i64 l[j].2.1) ∧ (actCells l)[j * 3 + 2]? = some (.int .i64 l[j].2.2)
  | a :: l, 0, _ => by simp [actCells, cellsC]
  | a :: l, j + 1, h => by
    have := actCells_at l j (by simpa using h)
    have e : actCells (a :: l) = cellsC a ++ actCells l := by simp [actCells]
    rw [e]
    have hl : (cellsC a).length = 3 := rfl
    rw [List.getElem?_append_right (by rw [hl]; omega), List.getElem?_append_right (by rw [hl]; omega), List.getElem?_append_right (by rw [hl]; omega), hl]
    rw [show (j + 1) * 3 - 3 = j * 3 by omega, show (j + 1) * 3 + 1 - 3 = j * 3 + 1 by omega, show (j + 1) * 3 + 2 - 3 = j * 3 + 2 by omega]
    exact this
/-- A slice of calls of the call's own, from block B on. -/
def OwnA (B : Nat) (v : Value) (l : List Call3) (w : World) : Prop := w.ownsRow B 28 3 v l.length (actCells l)
theorem OwnA.below {B : Nat} {v : Value} {l : List Call3} {w w' : World} (h : OwnA B v l w) (hb : Below w.heap.size w w') : OwnA B v l w' := World.ownsRow.kept h (below_grown hb) (by cases v.ownBlock <;> simp)
theorem OwnA.shape {B : Nat} {v : Value} {l : List Call3} {w : World} (h : OwnA B v l w) : ∃ p c, v = .slice p l.length c := by
  rcases h.2 with ⟨rfl, h0⟩ | ⟨g, cap, cur, rfl, _⟩
  · exact ⟨none, 0, by rw [h0]⟩
  · exact ⟨_, _, rfl⟩
/-- Behind what a writer does. -/
theorem OwnA.oth {B k : Nat} {v : Value} {l : List Call3} {w w' : World} {D : List UInt8} {T : List Bool} (h : OwnA B v l w) (hw : WB B k D T w) (ho : Lib.OthersKept 5 (some k) w w') : OwnA B v l w' := by
  refine ⟨h.1, ?_⟩
  rcases h.2 with h0 | ⟨g, cap, cur, hv, hb, hh, r⟩
  · exact .inl h0
  · refine .inr ⟨g, cap, cur, hv, hb, ho g _ hh ?_ (fun c fz => by simp), r⟩
    intro e
    obtain ⟨_, u, hu, _⟩ := hw
    cases e
    rw [hh] at hu
    simp at hu
/-- Behind what a reader does. -/
theorem OwnA.but {B k : Nat} {v : Value} {l : List Call3} {w w' : World} {s : ByteArray} {a : Nat} {H : List Bool} (h : OwnA B v l w) (hr : Rd k s a H w) (hb : But k w w') : OwnA B v l w' := by
  refine World.ownsRow.kept h hb.grown (.inr ?_)
  intro e
  obtain ⟨c, fz, hc⟩ := Lib.ownsRow_kind h k e
  unfold Rd at hr
  rw [hr] at hc
  simp at hc
theorem WB.but {B k j : Nat} {w w' : World} {s : ByteArray} {a : Nat} {H : List Bool} {D : List UInt8} {T : List Bool} (h : WB B k D T w) (hr : Rd j s a H w) (hb : But j w w') : WB B k D T w' := by
  obtain ⟨h1, v, hv, ho⟩ := h
  refine ⟨h1, v, ?_, ?_⟩
  · rw [hb.block k ?_ (Array.getElem?_eq_some_iff.1 hv).1]
    · exact hv
    · intro e
      subst e
      unfold Rd at hr
      rw [hv] at hr
      simp at hr
  · refine World.ownsRow.kept ho hb.grown (.inr ?_)
    intro e
    obtain ⟨c, fz, hc⟩ := Lib.ownsRow_kind ho j e
    unfold Rd at hr
    rw [hr] at hc
    simp at hc
theorem WB.oth {B k : Nat} {w w' : World} {D : List UInt8} {T : List Bool} (h : WB B k D T w) (ho : Lib.OthersKept 28 none w w') : WB B k D T w' := by
  obtain ⟨h1, v, hv, hown⟩ := h
  refine ⟨h1, v, ho k _ hv (by simp) (fun c fz => by simp), hown.1, ?_⟩
  rcases hown.2 with h0 | ⟨g, cap, cur, hv, hb, hh, r⟩
  · exact .inl h0
  · exact .inr ⟨g, cap, cur, hv, hb, ho g _ hh (by simp) (fun c fz => by simp), r⟩
/-- The cells of the call at a place. -/
theorem OwnA.cell {B : Nat} {p : Option Addr} {c j : Nat} {l : List Call3} {w : World} (h : OwnA B (.slice p l.length c) l w) (hj : j < l.length) :
    ∃ q, p = some ⟨q, 0, none⟩ ∧ ∀ W, OwnA B (.slice p l.length c) l W → W.cell? ⟨q, j * 3, none⟩ = some (.int .u8 (l[j].1 : Nat)) ∧ W.cell? ⟨q, j * 3 + 1, none⟩ = some (.int .i64 l[j].2.1) ∧ W.cell? ⟨q, j * 3 + 2, none⟩ = some (.int .i64 l[j].2.2) := by
  rcases h.2 with ⟨h0, h1⟩ | ⟨q, cap', cur, h0, _⟩
  · omega
  · obtain ⟨rfl, rfl⟩ : p = some ⟨q, 0, none⟩ ∧ c = cap' := by simpa using h0
    refine ⟨q, rfl, fun W hW => ?_⟩
    obtain ⟨a0, a1, a2⟩ := actCells_at l j hj
    have h0 := World.ownsRow.cells hW (g := q) rfl _ _ a0
    have h1 := World.ownsRow.cells hW (g := q) rfl _ _ a1
    have h2 := World.ownsRow.cells hW (g := q) rfl _ _ a2
    rw [add_none, Nat.zero_add] at h0 h1 h2
    exact ⟨h0, h1, h2⟩

/-- append(v, x): the new row is the call's own. -/
theorem wpList_appA {ops : Array Oper} {rest : List Oper} {o : Oper} {a : Act} {Q : Exit → Act → World → Prop} {w0 : World} (hgd : o.guard = none) (s x : Operand)
    (ho : o.op = .call { callee := .builtin .append, args := #[s, x], argTypes := #[22, 22] })
    (B : Nat) (v : Value) (acc : List Call3) (z : Call3)
    (hs : a.eval s = v) (hx : a.eval x = .slice (some ⟨w0.heap.size, 0, none⟩) 1 1)
    (hown : OwnA B v acc w0) (hlen : acc.length ≤ 1000000) (hB : B ≤ w0.heap.size)
    (h : ∀ v' w', OwnA B v' (acc ++ [z]) w' → Below B w0 w' → Lib.OthersKept 28 none w0 w' → wpList Try.prog ops Q rest (a.put o.dst v') w') :
    wpList Try.prog ops Q (o :: rest) a (w0.alloc (.cells #[.int .u8 (z.1 : Nat), .int .i64 z.2.1, .int .i64 z.2.2] 28)) := by
  obtain ⟨i0, hi, hz0, hz1, hz2⟩ := info_parts info28
  refine wpList_append_own _ hgd s x 22 ho B 28 i0 (.agg #[.int .u8 0, .int .i64 0, .int .i64 0]) 3 24 Try.underlying22 hi hz0 hz1 hz2 rfl (by decide) v acc.length (actCells acc) hs (World.ownsRow.alloc hown _) ⟨w0.heap.size, 0, none⟩ 1 1 (cellsC z) hx rfl ?_ ?_ (by unfold maxLen; omega) (by omega) (by simp; omega) ?_
  · intro j u hj
    rw [add_none, Nat.zero_add, cell_of_row _ w0.heap.size j _ 28 (0, 0) (heap_alloc_new w0 _)]
    simpa [cellsC] using hj
  · intro u hu
    simp only [cellsC, List.mem_cons, List.not_mem_nil, or_false] at hu
    rcases hu with rfl | rfl | rfl <;> rfl
  · intro v' w' hown' hg _
    have ho2 := World.ownsRow.alloc hown (.cells #[.int .u8 (z.1 : Nat), .int .i64 z.2.1, .int .i64 z.2.2] 28)
    refine h v' w' ?_ (((Below.refl B w0).alloc hB _).grown hg (by simp; omega) (fun k hk => (ho2.lt k hk).1)) (((Lib.OthersKept.refl 28 none w0).alloc _).grown hg (Lib.ownsRow_kind ho2))
    unfold OwnA
    have e : actCells (acc ++ [z]) = actCells acc ++ cellsC z := by simp [actCells]
    rw [List.length_append, e]
    exact hown'
end Go.Proofs.Ytialkpfjllhfkaa
