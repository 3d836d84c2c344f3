/- Rows of structs: slices that a call owns, slices that lie somewhere. -/
import Derived.Test.YtfohgocdabgbgaaDoorSQuant2
import Derived.Great.BuildSlice
namespace Go.Proofs.YtfohgocdabgbgaaDoor
open Go.RowKit

section
variable {α : Type}
/-- The cells of all. -/
def rowC (cs : α → Array Value) (l : List α) : List Value := l.flatMap fun a => (cs a).toList
theorem rowC_append (cs : α → Array Value) (l m : List α) : rowC cs (l ++ m) = rowC cs l ++ rowC cs m := by simp [rowC]
theorem rowC_one (cs : α → Array Value) (e : α) : rowC cs [e] = (cs e).toList := by simp [rowC]
theorem rowC_length {cs : α → Array Value} {n : Nat} (h : ∀ a, (cs a).size = n) : ∀ l : List α, (rowC cs l).length = l.length * n
  | [] => by simp [rowC]
  | a :: l => by
    have h1 := rowC_length h l
    have e : rowC cs (a :: l) = (cs a).toList ++ rowC cs l := by simp [rowC]
    rw [e, List.length_append, h1, Array.length_toList, h, List.length_cons, Nat.succ_mul, Nat.add_comm]
theorem rowC_at {cs : α → Array Value} {n : Nat} (h : ∀ a, (cs a).size = n) : ∀ (l : List α) (j i : Nat) (hj : j < l.length), i < n → (rowC cs l)[j * n + i]? = (cs l[j])[i]?
  | a :: l, 0, i, _, hi => by
    have e : rowC cs (a :: l) = (cs a).toList ++ rowC cs l := by simp [rowC]
    rw [e, Nat.zero_mul, Nat.zero_add, List.getElem?_append_left (by rw [Array.length_toList, h]; exact hi)]
    simp
  | a :: l, j + 1, i, hj, hi => by
    have h1 := rowC_at h l j i (by simpa using hj) hi
    have e : rowC cs (a :: l) = (cs a).toList ++ rowC cs l := by simp [rowC]
    have e2 : (j + 1) * n = j * n + n := Nat.succ_mul j n
    rw [e, List.getElem?_append_right (by rw [Array.length_toList, h]; omega), Array.length_toList, h]
    rw [show (j + 1) * n + i - n = j * n + i by omega, h1]
    simp

/-- A slice of structs of the call's own, from block B on. -/
def OwnR (T : TypeId) (n : Nat) (cs : α → Array Value) (B : Nat) (v : Value) (l : List α) (w : World) : Prop := w.ownsRow B T n v l.length (rowC cs l)
/-- A slice of structs that lies somewhere. -/
def RowV (n : Nat) (cs : α → Array Value) (v : Value) (l : List α) (w : World) : Prop :=
  ∃ p c, v = .slice p l.length c ∧ ((p = none ∧ c = 0 ∧ l = []) ∨ ∃ b o, p = some ⟨b, o, none⟩ ∧ b < w.heap.size ∧ ∀ j (h : j < l.length) i, i < n → w.cell? ⟨b, o + (j * n + i), none⟩ = (cs l[j])[i]?)
variable {T : TypeId} {n B : Nat} {cs : α → Array Value} {v : Value} {l : List α} {w w' : World}
theorem OwnR.nil : OwnR T n cs B (.slice none 0 0) [] w := World.ownsRow_nil _ _ _ _
theorem OwnR.on (h : OwnR T n cs B v l w) (hb : Below w.heap.size w w') : OwnR T n cs B v l w' := World.ownsRow.kept h (below_grown hb) (by cases v.ownBlock <;> simp)
theorem OwnR.mono {B' : Nat} (h : OwnR T n cs B v l w) (hb : B' ≤ B) : OwnR T n cs B' v l w := ⟨h.1, h.2.imp id fun ⟨g, cap, cur, h1, h2, h3⟩ => ⟨g, cap, cur, h1, Nat.le_trans hb h2, h3⟩⟩
theorem OwnR.alloc (h : OwnR T n cs B v l w) (o : Obj) : OwnR T n cs B v l (w.alloc o) := World.ownsRow.alloc h o
theorem OwnR.shape (h : OwnR T n cs B v l w) : ∃ p m c, v = .slice p m c ∧ Hid (m = l.length) := by
  rcases h.2 with ⟨rfl, h0⟩ | ⟨g, cap, cur, rfl, _⟩
  · exact ⟨none, 0, 0, rfl, h0.symm⟩
  · exact ⟨_, _, _, rfl, rfl⟩
theorem OwnR.oth {e : TypeId} {k : Option Nat} (h : OwnR T n cs B v l w) (ho : Lib.OthersKept e k w w') (he : T ≠ e) (hk : ∀ j, k = some j → ∃ cs t fz, w.heap[j]? = some (.cells cs t fz) ∧ T ≠ t) : OwnR T n cs B v l w' := by
  refine ⟨h.1, ?_⟩
  rcases h.2 with h0 | ⟨g, cap, cur, hv, hb, hh, r⟩
  · exact .inl h0
  · refine .inr ⟨g, cap, cur, hv, hb, ho g _ hh ?_ ?_, r⟩
    · intro e1
      obtain ⟨cs, t, fz, h1, h2⟩ := hk g e1.symm
      rw [h1] at hh
      simp only [Option.some.injEq, Obj.cells.injEq] at hh
      exact h2 hh.2.1.symm
    · intro c fz e1
      simp only [Obj.cells.injEq] at e1
      exact he e1.2.1
theorem OwnR.two {k c : Nat} (h : OwnR T n cs B v l w) (hb : Two k c w w') {a1 a2 : Array Value} {t1 t2 : TypeId} {f1 f2 : Nat × Nat} (hk : w.heap[k]? = some (.cells a1 t1 f1)) (hc : w.heap[c]? = some (.cells a2 t2 f2)) (h1 : T ≠ t1) (h2 : T ≠ t2) : OwnR T n cs B v l w' := by
  refine ⟨h.1, ?_⟩
  rcases h.2 with h0 | ⟨g, cap, cur, hv, hb', hh, r⟩
  · exact .inl h0
  · refine .inr ⟨g, cap, cur, hv, hb', (hb.block g ?_ ?_ (Array.getElem?_eq_some_iff.1 hh).1).trans hh, r⟩
    · rintro rfl
      rw [hk] at hh
      simp only [Option.some.injEq, Obj.cells.injEq] at hh
      exact h1 hh.2.1.symm
    · rintro rfl
      rw [hc] at hh
      simp only [Option.some.injEq, Obj.cells.injEq] at hh
      exact h2 hh.2.1.symm
theorem OwnR.rdd {B' k c : Nat} {s : ByteArray} {p : Nat × Nat} (h : OwnR T n cs B v l w) (hr : Rdd B' k c s p w) (hb : Two k c w w') (h1 : T ≠ 87) (h2 : T ≠ 124) : OwnR T n cs B v l w' :=
  h.two hb hr.box hr.cur h1 h2
theorem OwnR.setCell {g i : Nat} {u : Value} {a1 : Array Value} {t1 : TypeId} {f1 : Nat × Nat} (h : OwnR T n cs B v l w) (hg : w.heap[g]? = some (.cells a1 t1 f1)) (h1 : T ≠ t1) : OwnR T n cs B v l (w.setCell ⟨g, i, none⟩ u) :=
  OwnR.two (k := g) (c := g) h (Two.left ((But.refl g w).setCell i u)) hg hg h1 h1
theorem OwnR.view (hn : ∀ a, (cs a).size = n) (h : OwnR T n cs B v l w) : RowV n cs v l w := by
  rcases h.2 with ⟨rfl, h0⟩ | ⟨g, cap, cur, rfl, _, hg, hle, _, hs, ht⟩
  · have : l = [] := List.eq_nil_of_length_eq_zero h0
    subst this
    exact ⟨none, 0, rfl, .inl ⟨rfl, rfl, rfl⟩⟩
  · refine ⟨_, _, rfl, .inr ⟨g, 0, rfl, (Array.getElem?_eq_some_iff.1 hg).1, fun j hj i hi => ?_⟩⟩
    have e1 : j * n + i < l.length * n := by
      have : (j + 1) * n ≤ l.length * n := Nat.mul_le_mul_right n hj
      rw [Nat.succ_mul] at this
      omega
    have e : (cur.toList.take (l.length * n))[j * n + i]? = (rowC cs l)[j * n + i]? := by rw [ht]
    rw [List.getElem?_take, if_pos e1, rowC_at hn l j i hj hi] at e
    rw [cell_of_row w g _ cur T (0, 0) hg, Nat.zero_add, ← Array.getElem?_toList, e]
theorem RowV.on (_hn : ∀ a, (cs a).size = n) (h : RowV n cs v l w) (hb : Below w.heap.size w w') : RowV n cs v l w' := by
  obtain ⟨p, c, hv, h0 | ⟨b, o, hp, hh, hc⟩⟩ := h
  · exact ⟨p, c, hv, .inl h0⟩
  · refine ⟨p, c, hv, .inr ⟨b, o, hp, Nat.lt_of_lt_of_le hh hb.size, fun j hj i hi => ?_⟩⟩
    rw [hb.cell (p := ⟨b, _, none⟩) hh]
    exact hc j hj i hi
theorem RowV.shape (h : RowV n cs v l w) : ∃ p m c, v = .slice p m c ∧ Hid (m = l.length) := by
  obtain ⟨p, c, hv, _⟩ := h
  exact ⟨p, _, c, hv, rfl⟩
theorem RowV.lies (h : RowV n cs v l w) (hl : 0 < l.length) : ∃ b o c, v = .slice (some ⟨b, o, none⟩) l.length c ∧ b < w.heap.size ∧ ∀ j (h : j < l.length) i, i < n → w.cell? ⟨b, o + (j * n + i), none⟩ = (cs l[j])[i]? := by
  obtain ⟨p, c, hv, ⟨_, _, rfl⟩ | ⟨b, o, rfl, hh, hc⟩⟩ := h
  · simp at hl
  · exact ⟨b, o, c, hv, hh, hc⟩
end

theorem add_none (b o i : Nat) : (⟨b, o, none⟩ : Addr).add i = ⟨b, o + i, none⟩ := by unfold Addr.add; split <;> simp_all
/-- What 'buildSlice' of one struct lays. -/
theorem fill_one {n : Nat} (hn0 : 0 < n) (u : Value) (cells : Array Value) (hu : u.cells.size = n) (hc : cells.size = n) : Instr.fill (fun i => some (i * n, n)) cells [(0, u)] = some u.cells := by
  obtain ⟨r, h1, h2, h3⟩ := Great.fill_dense hn0 [u] 0 cells (fun v hv => by rw [List.mem_singleton] at hv; subst hv; exact hu) (by simp; omega)
  simp only [List.zipIdx_cons, List.zipIdx_nil, List.map_cons, List.map_nil] at h1
  rw [h1]
  congr 1
  apply Array.ext
  · rw [h2, hc, hu]
  · intro k a b
    have := h3 k
    rw [if_pos (by simp; omega)] at this
    have hk : k < n := by omega
    rw [Nat.div_eq_of_lt hk, Nat.mod_eq_of_lt hk] at this
    simp only [Nat.sub_self, List.getElem?_cons_zero, Option.bind_some] at this
    rw [Array.getElem?_eq_getElem a, Array.getElem?_eq_getElem b] at this
    exact Option.some.inj this
theorem wpList_bsR {T S : TypeId} {n : Nat} (z : Value) (m : Nat) (hi : (Tryd.prog.info? T).map (fun i => (i.zero, i.size, i.bytes)) = some (some z, n, m)) (hn0 : 0 < n) (hn1 : n ≤ 1000) (hS : Tryd.prog.underlying S = some (.slice T))
    {ops : Array Oper} {rest : List Oper} {o : Oper} {a : Act} {Q : Exit → Act → World → Prop} {w : World} (hg : o.guard = none) (x : Operand) (ho : o.op = .buildSlice S 1 #[(0, x)])
    (c : Array Value) (hc : c.size = n) (hx : a.eval x = .agg c)
    (h : wpList Tryd.prog ops Q rest (a.put o.dst (.slice (some ⟨w.heap.size, 0, none⟩) 1 1)) (w.alloc (.cells c T))) : wpList Tryd.prog ops Q (o :: rest) a w := by
  obtain ⟨i0, hi0, hz0, hz1, hz2⟩ := info_parts hi
  refine wpList_buildSlice hg S T 1 #[(0, x)] ho c i0 z hS hi0 hz0 (by rw [hz1]; omega) (by rw [hz1]; omega) ?_ h
  have e : ((#[(0, x)] : Array (Nat × Operand)).map fun (i, x) => (i, a.eval x)).toList = [(0, .agg c)] := by simp [hx]
  rw [e, hz1]
  exact fill_one hn0 (.agg c) _ hc (by simp)
/-- append(v, x). -/
theorem wpList_appR {α : Type} {cs : α → Array Value} {n : Nat} (hn : ∀ a, (cs a).size = n) (h1 : ∀ a, (cs a).all (·.oneCell') = true) {T S : TypeId} (z : Value) (m : Nat) (hi : (Tryd.prog.info? T).map (fun i => (i.zero, i.size, i.bytes)) = some (some z, n, m)) (hz : z.cells.size = n) (hn0 : 0 < n) (hm : m ≤ 1000) (hS : Tryd.prog.underlying S = some (.slice T))
    {ops : Array Oper} {rest : List Oper} {o : Oper} {a : Act} {Q : Exit → Act → World → Prop} {w0 : World} (hgd : o.guard = none) (s x : Operand)
    (ho : o.op = .call { callee := .builtin .append, args := #[s, x], argTypes := #[S, S] })
    (B : Nat) (v : Value) (acc : List α) (e : α) (hs : a.eval s = v) (k : Nat) (hk : k = w0.heap.size) (hx : a.eval x = .slice (some ⟨k, 0, none⟩) 1 1)
    (hown : OwnR T n cs B v acc w0) (hlen : acc.length ≤ 1000000) (hB : B ≤ w0.heap.size)
    (h : ∀ v' w', OwnR T n cs B v' (acc ++ [e]) w' → Below B w0 w' → Lib.OthersKept T none w0 w' → wpList Tryd.prog ops Q rest (a.put o.dst v') w') :
    wpList Tryd.prog ops Q (o :: rest) a (w0.alloc (.cells (cs e) T)) := by
  subst hk
  obtain ⟨i0, hi0, hz0, hz1, hz2⟩ := info_parts hi
  refine wpList_append_own _ hgd s x S ho B T i0 z n m hS hi0 hz0 hz1 hz2 hz hn0 v acc.length (rowC cs acc) hs (World.ownsRow.alloc hown _) ⟨w0.heap.size, 0, none⟩ 1 1 (cs e).toList hx (by rw [Array.length_toList, hn]; omega) ?_ ?_ (by unfold maxLen; omega) ?_ (by simp; omega) ?_
  · intro j u hj
    rw [add_none, Nat.zero_add, cell_of_row _ w0.heap.size j _ T (0, 0) (heap_alloc_new w0 _)]
    simpa using hj
  · intro u hu
    have := h1 e
    rw [Array.all_eq_true_iff_forall_mem] at this
    exact this u (by simpa using hu)
  · have := Nat.mul_le_mul (show acc.length + 1 ≤ 1000001 by omega) hm
    omega
  · intro v' w' hown' hg _
    have ho2 := World.ownsRow.alloc hown (.cells (cs e) T)
    refine h v' w' ?_ (((Below.refl B w0).alloc hB _).grown hg (by simp; omega) (fun k hk => (ho2.lt k hk).1)) (((Lib.OthersKept.refl T none w0).alloc _).grown hg (Lib.ownsRow_kind ho2))
    unfold OwnR
    rw [List.length_append, rowC_append, rowC_one]
    exact hown'
end Go.Proofs.YtfohgocdabgbgaaDoor
