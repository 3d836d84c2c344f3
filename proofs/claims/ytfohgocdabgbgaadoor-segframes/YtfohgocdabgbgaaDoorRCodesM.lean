/- What is kept: a block of another type. -/
import Derived.Test.YtfohgocdabgbgaaDoorHNew
import Derived.Test.YtfohgocdabgbgaaDoorRBy
import Derived.Lib.Strings
namespace Go.Proofs.YtfohgocdabgbgaaDoor
open Go.RowKit

/-! What is kept: a block of another type. -/
theorem add_none (b o i : Nat) : (⟨b, o, none⟩ : Addr).add i = ⟨b, o + i, none⟩ := by unfold Addr.add; split <;> simp_all
theorem getD_at (s : ByteArray) (i : Nat) (h : i < s.size) : s.data.toList.getD i 0 = s[i] := by
  rw [List.getD_eq_getElem?_getD, bytes_at s i h]; rfl
section
variable {w w' : World} {k : Nat} {cs : Array Value} {t : TypeId} {fz : Nat × Nat}
theorem kept_but {r : Nat} {cs' : Array Value} {t' : TypeId} {fz' : Nat × Nat} (h : w.heap[k]? = some (.cells cs t fz)) (hr : w.heap[r]? = some (.cells cs' t' fz')) (hne : t ≠ t') (hb : But r w w') : w'.heap[k]? = some (.cells cs t fz) := by
  refine (hb.block k ?_ (Array.getElem?_eq_some_iff.1 h).1).trans h
  rintro rfl
  rw [h] at hr
  simp only [Option.some.injEq, Obj.cells.injEq] at hr
  exact hne hr.2.1
theorem kept_oth {j : Nat} {e : TypeId} {cs' : Array Value} {t' : TypeId} {fz' : Nat × Nat} (h : w.heap[k]? = some (.cells cs t fz)) (hj : w.heap[j]? = some (.cells cs' t' fz')) (hne : t ≠ t') (he : t ≠ e) (ho : Lib.OthersKept e (some j) w w') : w'.heap[k]? = some (.cells cs t fz) := by
  refine ho k _ h ?_ ?_
  · intro e1
    cases e1
    rw [h] at hj
    simp only [Option.some.injEq, Obj.cells.injEq] at hj
    exact hne hj.2.1
  · intro c f e1
    simp only [Obj.cells.injEq] at e1
    exact he e1.2.1
theorem kept_oth0 {e : TypeId} (h : w.heap[k]? = some (.cells cs t fz)) (he : t ≠ e) (ho : Lib.OthersKept e none w w') : w'.heap[k]? = some (.cells cs t fz) := by
  refine ho k _ h (by simp) ?_
  intro c f e1
  simp only [Obj.cells.injEq] at e1
  exact he e1.2.1
end
/-! Slices of codes that a call owns; plain facts of the document's codes. -/
theorem codes_get' {c : Nat → Nat} {y : List UInt8} (h : off c 16 = y.length) {i : Nat} (hi : i < y.length) : (codes c y 16)[i]? = some (y[i].toNat, codeN c i, codeL c i) := by
  obtain ⟨h1, h2, h3⟩ := lvl_spec c i (by rw [h]; exact hi)
  have := codes_at c y 16 (lvl c i) (i - off c (lvl c i)) h1 (by omega)
  rw [Nat.add_sub_cancel' h2] at this
  rw [this]
  simp only [codeN, codeL, List.getD_eq_getElem?_getD, List.getElem?_eq_getElem hi, Option.getD_some]
theorem codes_el {c : Nat → Nat} {y : List UInt8} (h : off c 16 = y.length) {i : Nat} (hi : i < y.length) : (codes c y 16)[i]'(by rw [codes_length, h]; exact hi) = (y[i].toNat, codeN c i, codeL c i) := by
  have := codes_get' h hi
  rw [List.getElem?_eq_getElem (by rw [codes_length, h]; exact hi)] at this
  exact Option.some.inj this
theorem codeL_le' {c : Nat → Nat} {y : List UInt8} (h : off c 16 = y.length) {i : Nat} (hi : i < y.length) : codeL c i ≤ 16 := (lvl_spec c i (by rw [h]; exact hi)).1
theorem codeN_le' {c : Nat → Nat} {y : List UInt8} (hc : ∀ i, c i < 256) (h : off c 16 = y.length) {i : Nat} (hi : i < y.length) : codeN c i ≤ 40000000 := by
  obtain ⟨h1, h2, h3⟩ := lvl_spec c i (by rw [h]; exact hi)
  have := fst_16 c hc (lvl c i) (by omega)
  have := hc (lvl c i)
  unfold codeN
  omega
/-- Where all codes are less than 1s, all lengths leave room. -/
theorem free_of {c : Nat → Nat} {y : List UInt8} (h : off c 16 = y.length) (hok : ∀ i, i < y.length → codeN c i + 1 < 2 ^ codeL c i) : ∀ n, n < 16 → fst c n + c n < 2 ^ (n + 1) := by
  intro n
  induction n with
  | zero =>
    intro hn
    by_cases h0 : c 0 = 0
    · rw [h0]; show 0 + 0 < _; decide
    · have hlt : c 0 ≤ off c 16 := by have := off_le c (show 1 ≤ 16 by omega); simpa [off] using this
      have hi : c 0 - 1 < y.length := by omega
      have hl := lvl_spec c (c 0 - 1) (by omega)
      have e := lvl_unique c (c 0 - 1) (lvl c (c 0 - 1)) 0 hl.2.1 hl.2.2 (Nat.zero_le _) (by show _ < 0 + c 0; omega)
      have := hok _ hi
      unfold codeN codeL at this
      rw [e] at this
      have e0 : off c 0 = 0 := rfl
      omega
  | succ n ih =>
    intro hn
    by_cases h0 : c (n + 1) = 0
    · have := ih (by omega)
      rw [h0]
      show 2 * (fst c n + c n) + 0 < _
      rw [Nat.pow_succ]
      omega
    · have hlt : off c (n + 1) + c (n + 1) ≤ off c 16 := off_le c (show n + 1 + 1 ≤ 16 by omega)
      have hi : off c (n + 1) + (c (n + 1) - 1) < y.length := by omega
      have hl := lvl_spec c (off c (n + 1) + (c (n + 1) - 1)) (by omega)
      have e := lvl_unique c (off c (n + 1) + (c (n + 1) - 1)) _ (n + 1) hl.2.1 hl.2.2 (by omega) (by omega)
      have := hok _ hi
      unfold codeN codeL at this
      rw [e] at this
      omega
/-- What the document's loop has made of a length. -/
theorem row_length (c : Nat → Nat) (y : List UInt8) (n : Nat) : (row c y n).length = c n := by simp [row]
theorem row_take (c : Nat → Nat) (y : List UInt8) (n i : Nat) (h : i < c n) : (row c y n).take (i + 1) = (row c y n).take i ++ [((y.getD (off c n + i) 0).toNat, fst c n + i, n + 1)] := by
  rw [List.take_succ_eq_append_getElem (by rw [row_length]; exact h)]
  simp [row]
/-- The code that would come, ahead of a length's. -/
def nx (c : Nat → Nat) : Nat → Nat
  | 0 => 0
  | n + 1 => fst c n + c n
theorem nx_two (c : Nat → Nat) (n : Nat) : nx c n * 2 = fst c n := by
  cases n with
  | zero => rfl
  | succ n => show (fst c n + c n) * 2 = 2 * (fst c n + c n); omega

abbrev Cd := Nat × Nat × Nat
theorem info47 : (Tryd.prog.info? 164).map (fun i => (i.zero, i.size, i.bytes)) = some (some (.agg #[.int .i64 0, .int .i64 0, .int .i64 0]), 3, 24) := by kernel_rfl
def cellsD (a : Cd) : List Value := [.int .i64 (a.1 : Nat), .int .i64 (a.2.1 : Nat), .int .i64 (a.2.2 : Nat)]
def cdCells (l : List Cd) : List Value := l.flatMap cellsD
theorem cdCells_length : ∀ l : List Cd, (cdCells l).length = l.length * 3
  | [] => rfl
  | a :: l => by
    have := cdCells_length l
    simp only [cdCells, List.flatMap_cons, List.length_append, List.length_cons] at this ⊢
    rw [this]
    simp [cellsD]
    omega
theorem cdCells_at : ∀ (l : List Cd) (j : Nat) (h : j < l.length), (cdCells l)[j * 3]? = some (.int .i64 (l[j].1 : Nat)) ∧ (cdCells l)[j * 3 + 1]? = some (.int .i64 (l[j].2.1 : Nat)) ∧ (cdCells l)[j * 3 + 2]? = some (.int .i64 (l[j].2.2 : Nat))
  | a :: l, 0, _ => by simp [cdCells, cellsD]
  | a :: l, j + 1, h => by
    have := cdCells_at l j (by simpa using h)
    have e : cdCells (a :: l) = cellsD a ++ cdCells l := by simp [cdCells]
    rw [e]
    have hl : (cellsD a).length = 3 := rfl
    rw [List.getElem?_append_right (by rw [hl]; omega), List.getElem?_append_right (by rw [hl]; omega), List.getElem?_append_right (by rw [hl]; omega), hl]
    rw [show (j + 1) * 3 - 3 = j * 3 by omega, show (j + 1) * 3 + 1 - 3 = j * 3 + 1 by omega, show (j + 1) * 3 + 2 - 3 = j * 3 + 2 by omega]
    exact this
/-- A slice of codes of the call's own, from block B on. -/
def OwnC (B : Nat) (v : Value) (l : List Cd) (w : World) : Prop := w.ownsRow B 164 3 v l.length (cdCells l)
section
variable {B : Nat} {v : Value} {l : List Cd} {w w' : World}
theorem OwnC.below (h : OwnC B v l w) (hb : Below w.heap.size w w') : OwnC B v l w' := World.ownsRow.kept h (below_grown hb) (by cases v.ownBlock <;> simp)
theorem OwnC.len (h : OwnC B v l w) : ∃ p c, v = .slice p l.length c := by
  rcases h.2 with ⟨rfl, h0⟩ | ⟨g, cap, cur, rfl, _⟩
  · exact ⟨none, 0, by rw [h0]⟩
  · exact ⟨_, _, rfl⟩
theorem OwnC.othI (h : OwnC B v l w) (ho : Lib.OthersKept 3 none w w') : OwnC B v l w' := by
  refine ⟨h.1, ?_⟩
  rcases h.2 with h0 | ⟨g, cap, cur, hv, hb, hh, r⟩
  · exact .inl h0
  · exact .inr ⟨g, cap, cur, hv, hb, kept_oth0 hh (by decide) ho, r⟩
theorem OwnC.but {k : Nat} {cs : Array Value} {t : TypeId} {fz : Nat × Nat} (h : OwnC B v l w) (hr : w.heap[k]? = some (.cells cs t fz)) (ht : 164 ≠ t) (hb : But k w w') : OwnC B v l w' := by
  refine ⟨h.1, ?_⟩
  rcases h.2 with h0 | ⟨g, cap, cur, hv, hb', hh, r⟩
  · exact .inl h0
  · exact .inr ⟨g, cap, cur, hv, hb', kept_but hh hr ht hb, r⟩
theorem OwnC.cell {p : Option Addr} {c j : Nat} (h : OwnC B (.slice p l.length c) l w) (hj : j < l.length) :
    ∃ q, p = some ⟨q, 0, none⟩ ∧ ∀ W, OwnC B (.slice p l.length c) l W → W.cell? ⟨q, j * 3, none⟩ = some (.int .i64 (l[j].1 : Nat)) ∧ W.cell? ⟨q, j * 3 + 1, none⟩ = some (.int .i64 (l[j].2.1 : Nat)) ∧ W.cell? ⟨q, j * 3 + 2, none⟩ = some (.int .i64 (l[j].2.2 : Nat)) := by
  rcases h.2 with ⟨h0, h1⟩ | ⟨q, cap', cur, h0, _⟩
  · omega
  · obtain ⟨rfl, rfl⟩ : p = some ⟨q, 0, none⟩ ∧ c = cap' := by simpa using h0
    refine ⟨q, rfl, fun W hW => ?_⟩
    obtain ⟨a0, a1, a2⟩ := cdCells_at l j hj
    have h0 := World.ownsRow.cells hW (g := q) rfl _ _ a0
    have h1 := World.ownsRow.cells hW (g := q) rfl _ _ a1
    have h2 := World.ownsRow.cells hW (g := q) rfl _ _ a2
    rw [add_none, Nat.zero_add] at h0 h1 h2
    exact ⟨h0, h1, h2⟩
end
theorem OwnC.cells {B q n : Nat} {p : Option Addr} {l : List Cd} {f : Nat → Cd} {w : World} (hl : l.length = n) (hf : ∀ j, j < n → l[j]? = some (f j)) (h : OwnC B (.slice p n q) l w) (hpos : 0 < n) :
    ∃ g, p = some ⟨g, 0, none⟩ ∧ ∀ W, OwnC B (.slice p n q) l W → ∀ j, j < n → W.cell? ⟨g, j * 3, none⟩ = some (.int .i64 ((f j).1 : Nat)) ∧ W.cell? ⟨g, j * 3 + 1, none⟩ = some (.int .i64 ((f j).2.1 : Nat)) ∧ W.cell? ⟨g, j * 3 + 2, none⟩ = some (.int .i64 ((f j).2.2 : Nat)) := by
  subst hl
  obtain ⟨g, rfl, _⟩ := h.cell (j := 0) hpos
  refine ⟨g, rfl, fun W hW j hj => ?_⟩
  obtain ⟨g', e, hc⟩ := hW.cell (j := j) hj
  have := hc W hW
  have hfj := hf j hj
  rw [List.getElem?_eq_getElem hj] at hfj
  rw [Option.some.inj hfj] at this
  simp only [Option.some.injEq, Addr.mk.injEq] at e
  rw [← e.1] at this
  exact this
/-- The cells of all codes. -/
theorem codes_cells {B : Nat} {p : Option Addr} {q : Nat} {c : Nat → Nat} {s : ByteArray} {w : World} {l : List Cd} (hl : l = codes c s.data.toList 16) (h : OwnC B (.slice p s.size q) l w) (hsum : off c 16 = s.data.toList.length) (hpos : 0 < s.size) :
    ∃ g, p = some ⟨g, 0, none⟩ ∧ ∀ W, OwnC B (.slice p s.size q) l W → ∀ j (hj : j < s.size), W.cell? ⟨g, j * 3, none⟩ = some (.int .i64 (s[j].toNat : Nat)) ∧ W.cell? ⟨g, j * 3 + 1, none⟩ = some (.int .i64 (codeN c j : Nat)) ∧ W.cell? ⟨g, j * 3 + 2, none⟩ = some (.int .i64 (codeL c j : Nat)) := by
  have hlen : l.length = s.size := by rw [hl, codes_length, hsum]; simp
  have hf : ∀ j, j < s.size → l[j]? = some ((s.data.toList.getD j 0).toNat, codeN c j, codeL c j) := by
    intro j hj
    have := codes_get' hsum (i := j) (by simpa using hj)
    rw [← hl] at this
    rw [this, List.getD_eq_getElem?_getD, List.getElem?_eq_getElem (by simpa using hj)]
    rfl
  clear hl
  obtain ⟨g, e, hc⟩ := OwnC.cells hlen hf h hpos
  refine ⟨g, e, fun W hW j hj => ?_⟩
  have := hc W hW j hj
  rw [getD_at s j hj] at this
  exact this
/-- append(v, x): the new row is the call's own. -/
theorem wpList_appC {ops : Array Oper} {rest : List Oper} {o : Oper} {a : Act} {Q : Exit → Act → World → Prop} {w0 : World} (hgd : o.guard = none) (s x : Operand)
    (ho : o.op = .call { callee := .builtin .append, args := #[s, x], argTypes := #[137, 137] })
    (B : Nat) (v : Value) (acc : List Cd) (z : Cd)
    (hs : a.eval s = v) (hx : a.eval x = .slice (some ⟨w0.heap.size, 0, none⟩) 1 1)
    (hown : OwnC B v acc w0) (hlen : acc.length ≤ 1000000) (hB : B ≤ w0.heap.size)
    (h : ∀ v' w', OwnC B v' (acc ++ [z]) w' → Below B w0 w' → Lib.OthersKept 164 none w0 w' → wpList Tryd.prog ops Q rest (a.put o.dst v') w') :
    wpList Tryd.prog ops Q (o :: rest) a (w0.alloc (.cells #[.int .i64 (z.1 : Nat), .int .i64 (z.2.1 : Nat), .int .i64 (z.2.2 : Nat)] 164)) := by
  obtain ⟨i0, hi, hz0, hz1, hz2⟩ := info_parts info47
  refine wpList_append_own _ hgd s x 137 ho B 164 i0 (.agg #[.int .i64 0, .int .i64 0, .int .i64 0]) 3 24 Tryd.underlying137 hi hz0 hz1 hz2 rfl (by decide) v acc.length (cdCells acc) hs (World.ownsRow.alloc hown _) ⟨w0.heap.size, 0, none⟩ 1 1 (cellsD z) hx rfl ?_ ?_ (by unfold maxLen; omega) (by omega) (by simp; omega) ?_
  · intro j u hj
    rw [add_none, Nat.zero_add, cell_of_row _ w0.heap.size j _ 164 (0, 0) (heap_alloc_new w0 _)]
    simpa [cellsD] using hj
  · intro u hu
    simp only [cellsD, List.mem_cons, List.not_mem_nil, or_false] at hu
    rcases hu with rfl | rfl | rfl <;> rfl
  · intro v' w' hown' hg _
    have ho2 := World.ownsRow.alloc hown (.cells #[.int .i64 (z.1 : Nat), .int .i64 (z.2.1 : Nat), .int .i64 (z.2.2 : Nat)] 164)
    refine h v' w' ?_ (((Below.refl B w0).alloc hB _).grown hg (by simp; omega) (fun k hk => (ho2.lt k hk).1)) (((Lib.OthersKept.refl 164 none w0).alloc _).grown hg (Lib.ownsRow_kind ho2))
    unfold OwnC
    have e : cdCells (acc ++ [z]) = cdCells acc ++ cellsD z := by simp [cdCells]
    rw [List.length_append, e]
    exact hown'
/-! A walk of the document's Codes. -/
/-- What Codes answers. -/
def CodesPost (c : Nat → Nat) (s : ByteArray) (w : World) (e : Ending) (w' : World) : Prop :=
  ((Right c s.data.toList ∧ ∃ v, e = .returned (.tuple #[v, .bool true]) ∧ OwnC w.heap.size v (codes c s.data.toList 16) w') ∨ (¬ Right c s.data.toList ∧ e = .returned (.tuple #[.slice none 0 0, .bool false]))) ∧ Below w.heap.size w w'

set_option maxRecDepth 100000 in
set_option maxHeartbeats 8000000 in
theorem Codes_any (c : Nat → Nat) (hc : ∀ i, c i < 256) (s : ByteArray) (hs : s.size ≤ 70000) (w : World) :
    Calls Tryd.prog 57 #[.agg (cnt c), .string s] w fun e w' => CodesPost c s w e w' := by
  have HB0 := Lib.hid (below_box w (.cells (cnt c) 71))
  have HR0 := Lib.hid (RowC.new c w)
  have HCC := Lib.hid hc
  have hsz : s.data.toList.length = s.size := by simp
  have HSZ := Lib.hid hsz
  clear hc hsz
  go_enter Tryd.func57, Tryd.ntmps57
  go_wp2
  generalize hw1 : w.alloc (.cells (cnt c) 71) = w1 at *
  clear hw1
  go_loopw [6, 7, 8] (fun v x n wr => ∃ m : Nat, m ≤ 16 ∧ n = .int .i64 ((m : Int) + 1) ∧ x = .int .i64 (nx c m) ∧ off c m ≤ s.size ∧ OwnC w.heap.size v (codes c s.data.toList m) wr ∧ RowC w.heap.size c wr ∧ Below w.heap.size w wr) (fun _ _ n _ => 17 - (intOf n).toNat)
  case atStart => exact ⟨0, by omega, rfl, rfl, Nat.zero_le _, World.ownsRow_nil _ _ _ _, HR0.out, HB0.out⟩
  case round =>
    obtain ⟨m, hm, rfl, rfl, ho, hO, hRow, hB⟩ := hrel
    have HO := Lib.hid hO
    have HRow := Lib.hid hRow
    have HB := Lib.hid hB
    clear hO hRow hB
    by_cases hlt : m < 16
    · have hnx := nx_two c m
      have hf := fst_16 c HCC.out m hm
      have HNX := Lib.hid (show nx c (m + 1) = fst c m + c m from rfl)
      have HOF := Lib.hid (show off c (m + 1) = off c m + c m from rfl)
      have hnl : nx c m ≤ 33554432 := by omega
      have hnI : (nx c m : Int) * 2 = ((fst c m : Nat) : Int) := by omega
      have hcm := HCC.out m
      have h16 : decide ((m : Int) + 1 ≤ 16) = true := decide_eq_true (by omega)
      generalize nx c m = X at *
      generalize hF : fst c m = F at *
      generalize hd : c m = d at *
      generalize hOO : off c m = O at *
      have HF := Lib.hid hF
      have HD := Lib.hid hd
      have HOO := Lib.hid hOO
      clear hF hd hOO
      go_wp2
      go_loopw [6, 7, 9] (fun v x i wr => ∃ a : Nat, a ≤ d ∧ i = .int .i64 a ∧ x = .int .i64 (F + a : Nat) ∧ O + a ≤ s.size ∧ OwnC w.heap.size v (codes c s.data.toList m ++ (row c s.data.toList m).take a) wr ∧ RowC w.heap.size c wr ∧ Below w.heap.size w wr) (fun _ _ i _ => 256 - (intOf i).toNat)
      case atStart => exact ⟨0, Nat.zero_le _, rfl, by go_num, by omega, by rw [List.take_zero, List.append_nil]; exact HO.out, HRow.out, HB.out⟩
      case round =>
        obtain ⟨a, ha, rfl, rfl, ho2, hO, hRow, hB⟩ := hrel
        have x0 := hRow.cell hlt
        rw [HD.out] at x0
        have HO2 := Lib.hid hO
        have HRow2 := Lib.hid hRow
        have HB2 := Lib.hid hB
        have hBs := hB.size
        have hlen : (codes c s.data.toList m ++ (row c s.data.toList m).take a).length = O + a := by rw [List.length_append, codes_length, List.length_take, row_length, HOO.out, HD.out]; omega
        obtain ⟨p, q, hv⟩ := hO.len
        rw [hlen] at hv
        subst hv
        clear hO hRow hB
        by_cases hal : a < d
        · by_cases he : O + a = s.size
          · have hno : ¬ Right c s.data.toList := by
              intro h
              have h1 := h.sum
              rw [HSZ.out] at h1
              have h2 := off_le c (show m + 1 ≤ 16 by omega)
              rw [HOF.out] at h2
              omega
            have HNO := Lib.hid hno
            have he' : ((O : Int) + (a : Int) == (s.size : Int)) = true := by rw [beq_iff_eq]; omega
            clear hno hlen he
            go_wp2
            go_ret2
            exact ⟨.inr ⟨HNO.out, rfl⟩, HB2.out⟩
          · have he' : ((O : Int) + (a : Int) == (s.size : Int)) = false := by rw [beq_eq_false_iff_ne]; omega
            have hi : O + a < s.size := by omega
            have HT : Hid (codes c s.data.toList m ++ (row c s.data.toList m).take (a + 1) = (codes c s.data.toList m ++ (row c s.data.toList m).take a) ++ [(s[O + a].toNat, F + a, m + 1)]) := by
              unfold Hid
              rw [row_take c _ m a (by rw [HD.out]; exact hal), HOO.out, HF.out, getD_at s _ hi, List.append_assoc]
            have hb : s[O + a].toNat < 256 := s[O + a].toNat_lt
            have HLN := Lib.hid hlen
            clear hlen he
            generalize codes c s.data.toList m ++ (row c s.data.toList m).take a = A at *
            go_wp2_with (at_builtin; refine wpList_appC rfl _ _ rfl w.heap.size (.slice p (O + a) q) A (s[O + a].toNat, F + a, m + 1) rfl rfl HO2.out (by rw [HLN.out]; omega) hBs ?_)
            intro v3 w3 o3 b3 k3
            have HO3 := Lib.hid o3
            have HRow3 : Hid (RowC w.heap.size c w3) := kept_oth0 HRow2.out (by decide) k3
            have HB3 := Lib.hid (HB2.out.trans b3)
            clear o3 b3 k3
            go_wp2
            go_roundw
            case rel => exact ⟨a + 1, by omega, by go_num, by go_num, by omega, by rw [HT.out]; exact HO3.out, HRow3.out, HB3.out⟩
            case measure => simp [intOf]; omega
        · obtain rfl : a = d := by omega
          have HT : Hid (codes c s.data.toList m ++ (row c s.data.toList m).take a = codes c s.data.toList (m + 1)) := by
            unfold Hid
            rw [List.take_of_length_le (by rw [row_length, HD.out]; omega)]
            rfl
          have HO3 := HO2.out
          rw [HT.out] at HO3
          have HO4 := Lib.hid HO3
          clear HO3 HT HO2 hlen
          go_wp2
          go_roundw
          case rel => exact ⟨m + 1, by omega, by go_num, by rw [HNX.out], by rw [HOF.out]; omega, HO4.out, HRow2.out, HB2.out⟩
          case measure => simp [intOf]; omega
    · obtain rfl : m = 16 := by omega
      have h16 : decide (((16 : Nat) : Int) + 1 ≤ 16) = false := by decide
      obtain ⟨p, q, hv⟩ := HO.out.len
      rw [codes_length] at hv
      subst hv
      have HNS := Lib.hid (show off c 16 ≠ s.size ∨ s.size = 0 ∨ 256 < s.size → ¬ Right c s.data.toList by
        intro h1 h
        have e1 := h.sum
        have e2 := h.some
        have e3 := h.few
        rw [HSZ.out] at e1 e2 e3
        omega)
      generalize hN : off c 16 = N at *
      have HN := Lib.hid hN
      clear hN
      generalize nx c 16 = X at *
      by_cases h1 : N = s.size
      · subst h1
        by_cases h2 : s.size = 0
        · have h2' : ((s.size : Int) == 0) = true := by rw [beq_iff_eq]; omega
          have HNO := Lib.hid (HNS.out (.inr (.inl h2)))
          clear h2
          go_wp2
          go_ret2
          exact ⟨.inr ⟨HNO.out, rfl⟩, HB.out⟩
        by_cases h3 : 256 < s.size
        · have h2' : ((s.size : Int) == 0) = false := by rw [beq_eq_false_iff_ne]; omega
          have h3' : (256 : Int) < (s.size : Int) := by omega
          have HNO := Lib.hid (HNS.out (.inr (.inr h3)))
          clear h2 h3
          go_wp2
          go_ret2
          exact ⟨.inr ⟨HNO.out, rfl⟩, HB.out⟩
        have h2' : ((s.size : Int) == 0) = false := by rw [beq_eq_false_iff_ne]; omega
        have h3' : ¬ (256 : Int) < (s.size : Int) := by omega
        have HSUM : Hid (off c 16 = s.data.toList.length) := by unfold Hid; rw [HSZ.out]; exact HN.out
        obtain ⟨g, rfl, hcl⟩ := codes_cells rfl HO.out HSUM.out (by omega)
        have HCL := Lib.hid hcl
        clear hcl
        go_wp2
        clear h3' h2'
        go_loopw [10] (fun i wq => ∃ a : Nat, a ≤ s.size ∧ i = .int .i64 a ∧ (∀ j, j < a → codeN c j + 1 < 2 ^ codeL c j) ∧ (s.data.toList.take a).Nodup ∧ OwnC w.heap.size (.slice (some ⟨g, 0, none⟩) s.size q) (codes c s.data.toList 16) wq ∧ Below w.heap.size w wq) (fun i _ => s.size - (intOf i).toNat)
        case atStart => exact ⟨0, Nat.zero_le _, rfl, fun j hj => by omega, by simp, HO.out, HB.out⟩
        case round =>
          obtain ⟨a, ha, rfl, hok, hnd, hO, hB⟩ := hrel
          have HOK := Lib.hid hok
          have HND := Lib.hid hnd
          have HO2 := Lib.hid hO
          have HB2 := Lib.hid hB
          clear hok hnd hO hB
          by_cases hlt : a < s.size
          · have hL := codeL_le' HSUM.out (i := a) (by rw [HSZ.out]; exact hlt)
            have hX := codeN_le' HCC.out HSUM.out (i := a) (by rw [HSZ.out]; exact hlt)
            obtain ⟨y0, y1, y2⟩ := HCL.out _ HO2.out a hlt
            have HLT := Lib.hid (fun h : Right c s.data.toList => code_lt h (i := a) (by rw [HSZ.out]; exact hlt))
            have hxb : s[a].toNat < 256 := s[a].toNat_lt
            generalize hXX : codeN c a = X at *
            generalize hLL : codeL c a = L at *
            have HXX := Lib.hid hXX
            have HLL := Lib.hid hLL
            clear hXX hLL
            go_wp2
            go_loop [11, 12] (fun p k => ∃ b : Nat, b ≤ L ∧ k = .int .i64 b ∧ p = .int .i64 (2 ^ b : Nat)) (fun _ k => 16 - (intOf k).toNat)
            case atStart => exact ⟨0, Nat.zero_le _, rfl, rfl⟩
            case round =>
              obtain ⟨b, hb, rfl, rfl⟩ := hrel
              have hp := pow_le24 b (by omega)
              by_cases hbl : b < L
              · have HP := Lib.hid (show 2 ^ (b + 1) = 2 ^ b * 2 from Nat.pow_succ ..)
                generalize 2 ^ b = P at *
                go_wp2
                go_round
                case rel => exact ⟨b + 1, by omega, by go_num, by rw [HP.out]; go_num⟩
                case measure => simp [intOf]; omega
              · obtain rfl : b = L := by omega
                clear hbl hb
                have hpp := Nat.two_pow_pos b
                by_cases hf : X + 1 < 2 ^ b
                · have HF := Lib.hid hf
                  generalize hP : 2 ^ b = P at *
                  have HPP := Lib.hid hP
                  clear hP
                  have hf' : ¬ (P : Int) - 1 ≤ (X : Int) := by omega
                  clear hf
                  go_wp2
                  go_loopw [13] (fun k wq => ∃ d : Nat, d ≤ a ∧ k = .int .i64 d ∧ (∀ j (hj : j < d) (hj2 : j < s.size), s[j].toNat ≠ s[a].toNat) ∧ OwnC w.heap.size (.slice (some ⟨g, 0, none⟩) s.size q) (codes c s.data.toList 16) wq ∧ Below w.heap.size w wq) (fun k _ => a - (intOf k).toNat)
                  case atStart => exact ⟨0, Nat.zero_le _, rfl, fun j hj => by omega, HO2.out, HB2.out⟩
                  case round =>
                    obtain ⟨d, hd, rfl, hne, hO, hB⟩ := hrel
                    have HNE := Lib.hid hne
                    have HO3 := Lib.hid hO
                    have HB3 := Lib.hid hB
                    clear hne hO hB
                    by_cases hda : d < a
                    · have hds : d < s.size := by omega
                      obtain ⟨z0, _, _⟩ := HCL.out _ HO3.out d hds
                      obtain ⟨z1, _, _⟩ := HCL.out _ HO3.out a hlt
                      have hdb : s[d].toNat < 256 := s[d].toNat_lt
                      by_cases he : s[d].toNat = s[a].toNat
                      · have hno : ¬ Right c s.data.toList := by
                          intro h
                          exact List.pairwise_iff_getElem.1 h.once d a (by rw [HSZ.out]; exact hds) (by rw [HSZ.out]; exact hlt) hda (UInt8.toNat_inj.1 he)
                        have HNO := Lib.hid hno
                        have he' : ((s[d].toNat : Int) == (s[a].toNat : Int)) = true := by rw [beq_iff_eq]; omega
                        clear he hno
                        go_wp2
                        go_quiet (fail)
                        go_wp2
                        go_ret2
                        exact ⟨.inr ⟨HNO.out, rfl⟩, HB3.out.trans (below_drewN _ _ _)⟩
                      · have HNE2 : Hid (∀ j (hj : j < d + 1) (hj2 : j < s.size), s[j].toNat ≠ s[a].toNat) := by
                          intro j hj hj2
                          by_cases e : j = d
                          · subst e; exact he
                          · exact HNE.out j (by omega) hj2
                        have he' : ((s[d].toNat : Int) == (s[a].toNat : Int)) = false := by rw [beq_eq_false_iff_ne]; omega
                        clear he
                        go_wp2
                        go_quiet (fail)
                        go_wp2
                        go_roundw
                        case rel => exact ⟨d + 1, by omega, by go_num, HNE2.out, HO3.out, HB3.out.trans (below_drewN _ _ _)⟩
                        case measure => simp [intOf]; omega
                    · obtain rfl : d = a := by omega
                      have HOK2 : Hid (∀ j, j < d + 1 → codeN c j + 1 < 2 ^ codeL c j) := by
                        intro j hj
                        by_cases e : j = d
                        · subst e; rw [HXX.out, HLL.out, HPP.out]; exact HF.out
                        · exact HOK.out j (by omega)
                      have HND2 : Hid ((s.data.toList.take (d + 1)).Nodup) := by
                        unfold Hid
                        have hdl : d < s.data.toList.length := by rw [HSZ.out]; exact hlt
                        rw [List.take_succ_eq_append_getElem hdl, List.nodup_append]
                        refine ⟨HND.out, by simp, ?_⟩
                        intro x hx y hy e
                        rw [List.mem_singleton] at hy
                        subst hy
                        obtain ⟨j, hj, e2⟩ := List.mem_iff_getElem.1 hx
                        rw [List.length_take] at hj
                        rw [List.getElem_take] at e2
                        have hjs : j < s.size := by omega
                        refine HNE.out j (by omega) hjs ?_
                        have e3 : s[j] = s[d] := e2.trans e
                        rw [e3]
                      clear hda
                      go_wp2
                      go_roundw
                      case rel => exact ⟨d + 1, by omega, by go_num, HOK2.out, HND2.out, HO3.out, HB3.out⟩
                      case measure => simp [intOf]; omega
                · have hno : ¬ Right c s.data.toList := fun h => hf (HLT.out h)
                  have HNO := Lib.hid hno
                  generalize 2 ^ b = P at *
                  have hf' : (P : Int) - 1 ≤ (X : Int) := by omega
                  clear hf hno
                  go_wp2
                  go_ret2
                  exact ⟨.inr ⟨HNO.out, rfl⟩, HB2.out⟩
          · obtain rfl : a = s.size := by omega
            have hR : Right c s.data.toList := by
              have hnd := HND.out
              rw [List.take_of_length_le (by rw [HSZ.out]; omega)] at hnd
              exact ⟨HSUM.out, by rw [HSZ.out]; omega, by rw [HSZ.out]; omega, hnd, free_of HSUM.out fun i hi => HOK.out i (by rw [← HSZ.out]; exact hi)⟩
            have HR := Lib.hid hR
            clear hR
            go_wp2
            go_ret2
            exact ⟨.inl ⟨HR.out, _, rfl, HO2.out⟩, HB2.out⟩
      · have h1' : ((N : Int) != (s.size : Int)) = true := by rw [bne_iff_ne]; omega
        have HNO := Lib.hid (HNS.out (.inl h1))
        clear h1
        go_wp2
        go_ret2
        exact ⟨.inr ⟨HNO.out, rfl⟩, HB.out⟩
end Go.Proofs.YtfohgocdabgbgaaDoor
