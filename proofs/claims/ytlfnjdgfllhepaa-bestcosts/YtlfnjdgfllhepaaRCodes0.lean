/- Slices of codes that a call owns; plain facts of the document's codes. -/
import Derived.Test.YtlfnjdgfllhepaaHBack0
namespace Go.Proofs.Ytlfnjdgfllhepaa
open Go.RowKit

theorem codes_get' {c : Nat → Nat} {y : List UInt8} (h : off c 16 = y.length) {i : Nat} (hi : i < y.length) : (codes c y 16)[i]? = some (y[i].toNat, codeN c i, codeL c i) := by
  obtain ⟨h1, h2, h3⟩ := lvl_spec c i (by rw [h]; exact hi)
  have := codes_at c y 16 (lvl c i) (i - off c (lvl c i)) h1 (by omega)
  rw [Nat.add_sub_cancel' h2] at this
  rw [this]
  simp only [codeN, codeL, List.getD_eq_getElem?_getD, List.getElem?_eq_getElem hi, Option.getD_some]
theorem codes_el {c : Nat → Nat} {y : List UInt8} (h : off c 16 = y.length) {i : Nat} (hi : i < y.length) : (codes c y 16)[i]'(by rw [codes_length, h]; exact hi) = (y[i].toNat, codeN c i, codeL c i) := by
  have := codes_get' h hi
  rw [List.getElem?_eq_getElem (by rw [codes_length, h]; exact hi)] at this
  exact Option.some.inj this
theorem codeL_le' {c : Nat → Nat} {y : List UInt8} (h : off c 16 = y.length) {i : Nat} (hi : i < y.length) : codeL c i ≤ 16 := (lvl_spec c i (by rw [h]; exact hi)).1
theorem codeN_le' {c : Nat → Nat} {y : List UInt8} (hc : ∀ i, c i < 256) (h : off c 16 = y.length) {i : Nat} (hi : i < y.length) : codeN c i ≤ 40000000 := by
  obtain ⟨h1, h2, h3⟩ := lvl_spec c i (by rw [h]; exact hi)
  have := fst_16 c hc (lvl c i) (by omega)
  have := hc (lvl c i)
  unfold codeN
  omega
/-- Where all codes are less than 1s, all lengths leave room. -/
theorem free_of {c : Nat → Nat} {y : List UInt8} (h : off c 16 = y.length) (hok : ∀ i, i < y.length → codeN c i + 1 < 2 ^ codeL c i) : ∀ n, n < 16 → fst c n + c n < 2 ^ (n + 1) := by
  intro n
  induction n with
  | zero =>
    intro hn
    by_cases h0 : c 0 = 0
    · rw [h0]; show 0 + 0 < _; decide
    · have hlt : c 0 ≤ off c 16 := by have := off_le c (show 1 ≤ 16 by omega); simpa [off] using this
      have hi : c 0 - 1 < y.length := by omega
      have hl := lvl_spec c (c 0 - 1) (by omega)
      have e := lvl_unique c (c 0 - 1) (lvl c (c 0 - 1)) 0 hl.2.1 hl.2.2 (Nat.zero_le _) (by show _ < 0 + c 0; omega)
      have := hok _ hi
      unfold codeN codeL at this
      rw [e] at this
      have e0 : off c 0 = 0 := rfl
      omega
  | succ n ih =>
    intro hn
    by_cases h0 : c (n + 1) = 0
    · have := ih (by omega)
      rw [h0]
      show 2 * (fst c n + c n) + 0 < _
      rw [Nat.pow_succ]
      omega
    · have hlt : off c (n + 1) + c (n + 1) ≤ off c 16 := off_le c (show n + 1 + 1 ≤ 16 by omega)
      have hi : off c (n + 1) + (c (n + 1) - 1) < y.length := by omega
      have hl := lvl_spec c (off c (n + 1) + (c (n + 1) - 1)) (by omega)
      have e := lvl_unique c (off c (n + 1) + (c (n + 1) - 1)) _ (n + 1) hl.2.1 hl.2.2 (by omega) (by omega)
      have := hok _ hi
      unfold codeN codeL at this
      rw [e] at this
      omega
/-- What the document's loop has made of a length. -/
theorem row_length (c : Nat → Nat) (y : List UInt8) (n : Nat) : (row c y n).length = c n := by simp [row]
theorem row_take (c : Nat → Nat) (y : List UInt8) (n i : Nat) (h : i < c n) : (row c y n).take (i + 1) = (row c y n).take i ++ [((y.getD (off c n + i) 0).toNat, fst c n + i, n + 1)] := by
  rw [List.take_succ_eq_append_getElem (by rw [row_length]; exact h)]
  simp [row]
/-- The code that would come, ahead of a length's. -/
def nx (c : Nat → Nat) : Nat → Nat
  | 0 => 0
  | n + 1 => fst c n + c n
theorem nx_two (c : Nat → Nat) (n : Nat) : nx c n * 2 = fst c n := by
  cases n with
  | zero => rfl
  | succ n => show (fst c n + c n) * 2 = 2 * (fst c n + c n); omega

abbrev Cd := Nat × Nat × Nat
theorem info47 : (Try.prog.info? 43).map (fun i => (i.zero, i.size, i.bytes)) = some (some (.agg #[.int .i64 0, .int .i64 0, .int .i64 0]), 3, 24) := by kernel_rfl
def cellsD (a : Cd) : List Value := [.int .i64 (a.1 : Nat), .int .i64 (a.2.1 : Nat), .int .i64 (a.2.2 : Nat)]
def cdCells (l : List Cd) : List Value := l.flatMap cellsD
theorem cdCells_length : ∀ l : List Cd, (cdCells l).length = l.length * 3
  | [] => rfl
  | a :: l => by
    have := cdCells_length l
    simp only [cdCells, List.flatMap_cons, List.length_append, List.length_cons] at this ⊢
    rw [this]
    simp [cellsD]
    omega
theorem cdCells_at : ∀ (l : List Cd) (j : Nat) (h : j < l.length), (cdCells l)[j * 3]? = some (.int .i64 (l[j].1 : Nat)) ∧ (cdCells l)[j * 3 + 1]? = some (.int .i64 (l[j].2.1 : Nat)) ∧ (cdCells l)[j * 3 + 2]? = some (.int .i64 (l[j].2.2 : Nat))
  | a :: l, 0, _ => by simp [cdCells, cellsD]
  | a :: l, j + 1, h => by
    have := cdCells_at l j (by simpa using h)
    have e : cdCells (a :: l) = cellsD a ++ cdCells l := by simp [cdCells]
    rw [e]
    have hl : (cellsD a).length = 3 := rfl
    rw [List.getElem?_append_right (by rw [hl]; omega), List.getElem?_append_right (by rw [hl]; omega), List.getElem?_append_right (by rw [hl]; omega), hl]
    rw [show (j + 1) * 3 - 3 = j * 3 by omega, show (j + 1) * 3 + 1 - 3 = j * 3 + 1 by omega, show (j + 1) * 3 + 2 - 3 = j * 3 + 2 by omega]
    exact this
/-- A slice of codes of the call's own, from block B on. -/
def OwnC (B : Nat) (v : Value) (l : List Cd) (w : World) : Prop := w.ownsRow B 43 3 v l.length (cdCells l)
section
variable {B : Nat} {v : Value} {l : List Cd} {w w' : World}
theorem OwnC.below (h : OwnC B v l w) (hb : Below w.heap.size w w') : OwnC B v l w' := World.ownsRow.kept h (below_grown hb) (by cases v.ownBlock <;> simp)
theorem OwnC.len (h : OwnC B v l w) : ∃ p c, v = .slice p l.length c := by
  rcases h.2 with ⟨rfl, h0⟩ | ⟨g, cap, cur, rfl, _⟩
  · exact ⟨none, 0, by rw [h0]⟩
  · exact ⟨_, _, rfl⟩
theorem OwnC.othI (h : OwnC B v l w) (ho : Lib.OthersKept 3 none w w') : OwnC B v l w' := by
  refine ⟨h.1, ?_⟩
  rcases h.2 with h0 | ⟨g, cap, cur, hv, hb, hh, r⟩
  · exact .inl h0
  · exact .inr ⟨g, cap, cur, hv, hb, kept_oth0 hh (by decide) ho, r⟩
theorem OwnC.but {k : Nat} {cs : Array Value} {t : TypeId} {fz : Nat × Nat} (h : OwnC B v l w) (hr : w.heap[k]? = some (.cells cs t fz)) (ht : 43 ≠ t) (hb : But k w w') : OwnC B v l w' := by
  refine ⟨h.1, ?_⟩
  rcases h.2 with h0 | ⟨g, cap, cur, hv, hb', hh, r⟩
  · exact .inl h0
  · exact .inr ⟨g, cap, cur, hv, hb', kept_but hh hr ht hb, r⟩
theorem OwnC.cell {p : Option Addr} {c j : Nat} (h : OwnC B (.slice p l.length c) l w) (hj : j < l.length) :
    ∃ q, p = some ⟨q, 0, none⟩ ∧ ∀ W, OwnC B (.slice p l.length c) l W → W.cell? ⟨q, j * 3, none⟩ = some (.int .i64 (l[j].1 : Nat)) ∧ W.cell? ⟨q, j * 3 + 1, none⟩ = some (.int .i64 (l[j].2.1 : Nat)) ∧ W.cell? ⟨q, j * 3 + 2, none⟩ = some (.int .i64 (l[j].2.2 : Nat)) := by
  rcases h.2 with ⟨h0, h1⟩ | ⟨q, cap', cur, h0, _⟩
  · omega
  · obtain ⟨rfl, rfl⟩ : p = some ⟨q, 0, none⟩ ∧ c = cap' := by simpa using h0
    refine ⟨q, rfl, fun W hW => ?_⟩
    obtain ⟨a0, a1, a2⟩ := cdCells_at l j hj
    have h0 := World.ownsRow.cells hW (g := q) rfl _ _ a0
    have h1 := World.ownsRow.cells hW (g := q) rfl _ _ a1
    have h2 := World.ownsRow.cells hW (g := q) rfl _ _ a2
    rw [add_none, Nat.zero_add] at h0 h1 h2
    exact ⟨h0, h1, h2⟩
end
theorem OwnC.cells {B q n : Nat} {p : Option Addr} {l : List Cd} {f : Nat → Cd} {w : World} (hl : l.length = n) (hf : ∀ j, j < n → l[j]? = some (f j)) (h : OwnC B (.slice p n q) l w) (hpos : 0 < n) :
    ∃ g, p = some ⟨g, 0, none⟩ ∧ ∀ W, OwnC B (.slice p n q) l W → ∀ j, j < n → W.cell? ⟨g, j * 3, none⟩ = some (.int .i64 ((f j).1 : Nat)) ∧ W.cell? ⟨g, j * 3 + 1, none⟩ = some (.int .i64 ((f j).2.1 : Nat)) ∧ W.cell? ⟨g, j * 3 + 2, none⟩ = some (.int .i64 ((f j).2.2 : Nat)) := by
  subst hl
  obtain ⟨g, rfl, _⟩ := h.cell (j := 0) hpos
  refine ⟨g, rfl, fun W hW j hj => ?_⟩
  obtain ⟨g', e, hc⟩ := hW.cell (j := j) hj
  have := hc W hW
  have hfj := hf j hj
  rw [List.getElem?_eq_getElem hj] at hfj
  rw [Option.some.inj hfj] at this
  simp only [Option.some.injEq, Addr.mk.injEq] at e
  rw [← e.1] at this
  exact this
/-- The cells of all codes. -/
theorem codes_cells {B : Nat} {p : Option Addr} {q : Nat} {c : Nat → Nat} {s : ByteArray} {w : World} {l : List Cd} (hl : l = codes c s.data.toList 16) (h : OwnC B (.slice p s.size q) l w) (hsum : off c 16 = s.data.toList.length) (hpos : 0 < s.size) :
    ∃ g, p = some ⟨g, 0, none⟩ ∧ ∀ W, OwnC B (.slice p s.size q) l W → ∀ j (hj : j < s.size), W.cell? ⟨g, j * 3, none⟩ = some (.int .i64 (s[j].toNat : Nat)) ∧ W.cell? ⟨g, j * 3 + 1, none⟩ = some (.int .i64 (codeN c j : Nat)) ∧ W.cell? ⟨g, j * 3 + 2, none⟩ = some (.int .i64 (codeL c j : Nat)) := by
  have hlen : l.length = s.size := by rw [hl, codes_length, hsum]; simp
  have hf : ∀ j, j < s.size → l[j]? = some ((s.data.toList.getD j 0).toNat, codeN c j, codeL c j) := by
    intro j hj
    have := codes_get' hsum (i := j) (by simpa using hj)
    rw [← hl] at this
    rw [this, List.getD_eq_getElem?_getD, List.getElem?_eq_getElem (by simpa using hj)]
    rfl
  clear hl
  obtain ⟨g, e, hc⟩ := OwnC.cells hlen hf h hpos
  refine ⟨g, e, fun W hW j hj => ?_⟩
  have := hc W hW j hj
  rw [getD_at s j hj] at this
  exact this
/-- append(v, x): the new row is the call's own. -/
theorem wpList_appC {ops : Array Oper} {rest : List Oper} {o : Oper} {a : Act} {Q : Exit → Act → World → Prop} {w0 : World} (hgd : o.guard = none) (s x : Operand)
    (ho : o.op = .call { callee := .builtin .append, args := #[s, x], argTypes := #[39, 39] })
    (B : Nat) (v : Value) (acc : List Cd) (z : Cd)
    (hs : a.eval s = v) (hx : a.eval x = .slice (some ⟨w0.heap.size, 0, none⟩) 1 1)
    (hown : OwnC B v acc w0) (hlen : acc.length ≤ 1000000) (hB : B ≤ w0.heap.size)
    (h : ∀ v' w', OwnC B v' (acc ++ [z]) w' → Below B w0 w' → Lib.OthersKept 43 none w0 w' → wpList Try.prog ops Q rest (a.put o.dst v') w') :
    wpList Try.prog ops Q (o :: rest) a (w0.alloc (.cells #[.int .i64 (z.1 : Nat), .int .i64 (z.2.1 : Nat), .int .i64 (z.2.2 : Nat)] 43)) := by
  obtain ⟨i0, hi, hz0, hz1, hz2⟩ := info_parts info47
  refine wpList_append_own _ hgd s x 39 ho B 43 i0 (.agg #[.int .i64 0, .int .i64 0, .int .i64 0]) 3 24 Try.underlying39 hi hz0 hz1 hz2 rfl (by decide) v acc.length (cdCells acc) hs (World.ownsRow.alloc hown _) ⟨w0.heap.size, 0, none⟩ 1 1 (cellsD z) hx rfl ?_ ?_ (by unfold maxLen; omega) (by omega) (by simp; omega) ?_
  · intro j u hj
    rw [add_none, Nat.zero_add, cell_of_row _ w0.heap.size j _ 43 (0, 0) (heap_alloc_new w0 _)]
    simpa [cellsD] using hj
  · intro u hu
    simp only [cellsD, List.mem_cons, List.not_mem_nil, or_false] at hu
    rcases hu with rfl | rfl | rfl <;> rfl
  · intro v' w' hown' hg _
    have ho2 := World.ownsRow.alloc hown (.cells #[.int .i64 (z.1 : Nat), .int .i64 (z.2.1 : Nat), .int .i64 (z.2.2 : Nat)] 43)
    refine h v' w' ?_ (((Below.refl B w0).alloc hB _).grown hg (by simp; omega) (fun k hk => (ho2.lt k hk).1)) (((Lib.OthersKept.refl 43 none w0).alloc _).grown hg (Lib.ownsRow_kind ho2))
    unfold OwnC
    have e : cdCells (acc ++ [z]) = cdCells acc ++ cellsD z := by simp [cdCells]
    rw [List.length_append, e]
    exact hown'
end Go.Proofs.Ytlfnjdgfllhepaa
