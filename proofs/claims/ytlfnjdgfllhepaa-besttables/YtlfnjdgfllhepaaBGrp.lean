/- The document's groups in memory. -/
import Derived.Test.YtlfnjdgfllhepaaBNat
namespace Go.Proofs.Ytlfnjdgfllhepaa
open Go.RowKit

theorem info74 : (Try.prog.info? 74).map (fun i => (i.zero, i.size, i.bytes)) = some (some (.agg #[.int .i64 0, .int .i64 0, .slice none 0 0]), 3, 40) := by kernel_rfl
def cellsG (p : Grp × Value) : List Value := [.int .i64 (p.1.first : Nat), .int .i64 (p.1.n : Nat), p.2]
def gCells (l : List (Grp × Value)) : List Value := l.flatMap cellsG
theorem gCells_length : ∀ l : List (Grp × Value), (gCells l).length = l.length * 3
  | [] => rfl
  | a :: l => by
    have := gCells_length l
    simp only [gCells, List.flatMap_cons, List.length_append, List.length_cons] at this ⊢
    rw [this]
    simp [cellsG]
    omega
theorem gCells_at : ∀ (l : List (Grp × Value)) (j : Nat) (h : j < l.length), (gCells l)[j * 3]? = some (.int .i64 (l[j].1.first : Nat)) ∧ (gCells l)[j * 3 + 1]? = some (.int .i64 (l[j].1.n : Nat)) ∧ (gCells l)[j * 3 + 2]? = some l[j].2
  | a :: l, 0, _ => by simp [gCells, cellsG]
  | a :: l, j + 1, h => by
    have := gCells_at l j (by simpa using h)
    have e : gCells (a :: l) = cellsG a ++ gCells l := by simp [gCells]
    rw [e]
    have hl : (cellsG a).length = 3 := rfl
    rw [List.getElem?_append_right (by rw [hl]; omega), List.getElem?_append_right (by rw [hl]; omega), List.getElem?_append_right (by rw [hl]; omega), hl]
    rw [show (j + 1) * 3 - 3 = j * 3 by omega, show (j + 1) * 3 + 1 - 3 = j * 3 + 1 by omega, show (j + 1) * 3 + 2 - 3 = j * 3 + 2 by omega]
    exact this
/-- A slice of groups of the call's own, from block B on; their symbols lie somewhere. -/
def GL (B : Nat) (v : Value) (gs : List Grp) (w : World) : Prop :=
  ∃ l : List (Grp × Value), l.map (·.1) = gs ∧ w.ownsRow B 74 3 v l.length (gCells l) ∧ ∀ p ∈ l, ViewN p.2 p.1.all w
section
variable {B : Nat} {v : Value} {gs : List Grp} {w w' : World}
theorem GL.nil : GL B (.slice none 0 0) [] w := ⟨[], rfl, World.ownsRow_nil _ _ _ _, fun p hp => by cases hp⟩
theorem GL.below (h : GL B v gs w) (hb : Below w.heap.size w w') : GL B v gs w' := by
  obtain ⟨l, h1, h2, h3⟩ := h
  exact ⟨l, h1, World.ownsRow.kept h2 (below_grown hb) (by cases v.ownBlock <;> simp), fun p hp => (h3 p hp).on hb⟩
theorem GL.len (h : GL B v gs w) : ∃ p c, v = .slice p gs.length c := by
  obtain ⟨l, rfl, h2, _⟩ := h
  rw [List.length_map]
  rcases h2.2 with ⟨rfl, h0⟩ | ⟨g, cap, cur, rfl, _⟩
  · exact ⟨none, 0, by rw [h0]⟩
  · exact ⟨_, _, rfl⟩
theorem GL.shape (h : GL B v gs w) (h0 : 0 < gs.length) : ∃ q c, v = .slice (some ⟨q, 0, none⟩) gs.length c ∧ B ≤ q := by
  obtain ⟨l, rfl, h2, _⟩ := h
  rw [List.length_map] at *
  rcases h2.2 with ⟨rfl, h0'⟩ | ⟨g, cap, cur, rfl, hb, _⟩
  · omega
  · exact ⟨_, _, rfl, hb⟩
/-- Behind a change of one block that is another kind of row. -/
theorem GL.but {k : Nat} {cs : Array Value} {t : TypeId} {fz : Nat × Nat} (h : GL B v gs w) (hb : But k w w') (hr : w.heap[k]? = some (.cells cs t fz)) (ht : t ≠ 3) (ht' : t ≠ 74) : GL B v gs w' := by
  obtain ⟨l, h1, h2, h3⟩ := h
  refine ⟨l, h1, ⟨h2.1, ?_⟩, fun p hp => (h3 p hp).but hb hr ht⟩
  rcases h2.2 with h0 | ⟨g, cap, cur, hv, hb', hh, r⟩
  · exact .inl h0
  · exact .inr ⟨g, cap, cur, hv, hb', kept_but hh hr (Ne.symm ht') hb, r⟩
theorem GL.cells {q n c : Nat} (h : GL B (.slice (some ⟨q, 0, none⟩) n c) gs w) {j : Nat} (hj : j < gs.length) :
    w.cell? ⟨q, j * 3, none⟩ = some (.int .i64 ((gat gs j).first : Nat)) ∧ w.cell? ⟨q, j * 3 + 1, none⟩ = some (.int .i64 ((gat gs j).n : Nat)) ∧ ∃ u, w.cell? ⟨q, j * 3 + 2, none⟩ = some u ∧ ViewN u (gat gs j).all w := by
  obtain ⟨l, rfl, h2, h3⟩ := h
  have hj' : j < l.length := by rwa [List.length_map] at hj
  have e : gat (l.map (·.1)) j = l[j].1 := by rw [gat_el hj, List.getElem_map]
  rw [e]
  obtain ⟨a0, a1, a2⟩ := gCells_at l j hj'
  have h0 := World.ownsRow.cells h2 (g := q) rfl _ _ a0
  have h1 := World.ownsRow.cells h2 (g := q) rfl _ _ a1
  have h2 := World.ownsRow.cells h2 (g := q) rfl _ _ a2
  rw [add_none, Nat.zero_add] at h0 h1 h2
  exact ⟨h0, h1, _, h2, h3 _ (List.getElem_mem hj')⟩
end
theorem ViewN.one {u : Value} {l : List Nat} {w : World} (h : ViewN u l w) : u.oneCell' = true := by
  obtain ⟨p, c, rfl, _⟩ := h
  rfl
theorem ViewN.len {u : Value} {l : List Nat} {w : World} (h : ViewN u l w) : ∃ p c, u = .slice p l.length c := by
  obtain ⟨p, c, hv, _⟩ := h
  exact ⟨p, c, hv⟩
theorem ViewN.new {w : World} {x : Nat} {z : Int} (hz : z = x) : ViewN (.slice (some ⟨w.heap.size, 0, none⟩) 1 1) [x] (w.alloc (.cells #[.int .i64 z] 3)) := by
  subst hz
  refine ⟨_, _, rfl, .inr ⟨w.heap.size, 0, _, rfl, heap_alloc_new _ _, fun i hi => ?_⟩⟩
  simp only [List.length_singleton] at hi
  obtain rfl : i = 0 := by omega
  rfl
/-- append(v, g): the new row is the call's own. -/
theorem wpList_appG {ops : Array Oper} {rest : List Oper} {o : Oper} {a : Act} {Q : Exit → Act → World → Prop} {w0 : World} (hgd : o.guard = none) (s x : Operand)
    (ho : o.op = .call { callee := .builtin .append, args := #[s, x], argTypes := #[72, 72] })
    (B : Nat) (v : Value) (acc : List Grp) (g : Grp) (z1 z2 : Int) (hz1 : z1 = (g.first : Nat)) (hz2 : z2 = (g.n : Nat)) (u : Value)
    (hs : a.eval s = v) (k : Nat) (hk : k = w0.heap.size) (hx : a.eval x = .slice (some ⟨k, 0, none⟩) 1 1)
    (hown : GL B v acc w0) (hu : ViewN u g.all w0) (hlen : acc.length ≤ 1000000) (hB : B ≤ w0.heap.size)
    (h : ∀ v' w', GL B v' (acc ++ [g]) w' → Below B w0 w' → Lib.OthersKept 74 none w0 w' → wpList Try.prog ops Q rest (a.put o.dst v') w') :
    wpList Try.prog ops Q (o :: rest) a (w0.alloc (.cells #[.int .i64 z1, .int .i64 z2, u] 74)) := by
  subst hz1 hz2 hk
  obtain ⟨i0, hi, hz0, hzs, hzb⟩ := info_parts info74
  obtain ⟨l, hl, hown, hall⟩ := hown
  have hll : l.length = acc.length := by rw [← hl, List.length_map]
  refine wpList_append_own _ hgd s x 72 ho B 74 i0 (.agg #[.int .i64 0, .int .i64 0, .slice none 0 0]) 3 40 Try.underlying72 hi hz0 hzs hzb rfl (by decide) v l.length (gCells l) hs (World.ownsRow.alloc hown _) ⟨w0.heap.size, 0, none⟩ 1 1 (cellsG (g, u)) hx rfl ?_ ?_ (by unfold maxLen; omega) (by omega) (by simp; omega) ?_
  · intro j y hj
    rw [add_none, Nat.zero_add, cell_of_row _ w0.heap.size j _ 74 (0, 0) (heap_alloc_new w0 _)]
    simpa [cellsG] using hj
  · intro y hy
    simp only [cellsG, List.mem_cons, List.not_mem_nil, or_false] at hy
    rcases hy with rfl | rfl | rfl
    · rfl
    · rfl
    · exact hu.one
  · intro v' w' hown' hg _
    have ho2 := World.ownsRow.alloc hown (.cells #[.int .i64 (g.first : Nat), .int .i64 (g.n : Nat), u] 74)
    have hk : Lib.OthersKept 74 none w0 w' := ((Lib.OthersKept.refl 74 none w0).alloc _).grown hg (Lib.ownsRow_kind ho2)
    refine h v' w' ⟨l ++ [(g, u)], by rw [List.map_append, hl]; rfl, ?_, ?_⟩ (((Below.refl B w0).alloc hB _).grown hg (by simp; omega) (fun k hk => (ho2.lt k hk).1)) hk
    · have e : gCells (l ++ [(g, u)]) = gCells l ++ cellsG (g, u) := by simp [gCells]
      rw [List.length_append, e]
      exact hown'
    · intro p hp
      rcases List.mem_append.1 hp with hp | hp
      · exact (hall p hp).oth hk (by decide) (fun j hj => by cases hj)
      · rw [List.mem_singleton] at hp
        subst hp
        exact hu.oth hk (by decide) (fun j hj => by cases hj)
end Go.Proofs.Ytlfnjdgfllhepaa
