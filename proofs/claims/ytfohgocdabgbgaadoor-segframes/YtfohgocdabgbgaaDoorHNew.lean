/- Walks: New, Symbols, Counts; tables in memory. -/
import Derived.Test.YtfohgocdabgbgaaDoorHRow
namespace Go.Proofs.YtfohgocdabgbgaaDoor
open Go.RowKit

/-- Counts lie in this block. -/
def RowC (g : Nat) (c : Nat → Nat) (w : World) : Prop := w.heap[g]? = some (.cells (cnt c) 71 (0, 0))
theorem RowC.lt {g : Nat} {c : Nat → Nat} {w : World} (h : RowC g c w) : g < w.heap.size := (Array.getElem?_eq_some_iff.1 h).1
theorem RowC.on {g : Nat} {c : Nat → Nat} {w w' : World} (h : RowC g c w) (hb : Below w.heap.size w w') : RowC g c w' := (hb.block g h.lt).trans h
theorem RowC.cell {g : Nat} {c : Nat → Nat} {w : World} (h : RowC g c w) {i : Nat} (hi : i < 16) : w.cell? ⟨g, i, none⟩ = some (.int .u8 (c i : Nat)) := by
  rw [cell_of_row w g i _ 71 (0, 0) h, cnt_at c i hi]
theorem RowC.new (c : Nat → Nat) (w : World) : RowC w.heap.size c (w.alloc (.cells (cnt c) 71)) := heap_alloc_new _ _
/-- A table lies in this block. -/
def Tbl (k : Nat) (c : Nat → Nat) (s : ByteArray) (w : World) : Prop := w.heap[k]? = some (.cells ((cnt c).push (.string s)) 176 (0, 0))
section
variable {k : Nat} {c : Nat → Nat} {s : ByteArray} {w w' : World}
theorem Tbl.count (h : Tbl k c s w) {i : Nat} (hi : i < 16) : w.cell? ⟨k, i, none⟩ = some (.int .u8 (c i : Nat)) := by
  rw [cell_of_row w k i _ 176 (0, 0) h, Array.getElem?_push, if_neg (by rw [cnt_size]; omega), cnt_at c i hi]
theorem Tbl.text (h : Tbl k c s w) : w.cell? ⟨k, 16, none⟩ = some (.string s) := by
  rw [cell_of_row w k 16 _ 176 (0, 0) h, Array.getElem?_push, if_pos (by rw [cnt_size])]
theorem Tbl.lt (h : Tbl k c s w) : k < w.heap.size := (Array.getElem?_eq_some_iff.1 h).1
theorem Tbl.on (h : Tbl k c s w) (hb : Below w.heap.size w w') : Tbl k c s w' := (hb.block k h.lt).trans h
theorem Tbl.othI (h : Tbl k c s w) (ho : Lib.OthersKept 3 none w w') : Tbl k c s w' := ho k _ h (by simp) (fun c fz => by simp)
end
theorem built66 (c : Nat → Nat) (s : ByteArray) : Tryd.prog.built 176 [(0, .agg (cnt c)), (1, .string s)] = some ((cnt c).push (.string s)) := by kernel_rfl

theorem wpList_wanted {P : Program} {ops : Array Oper} {rest : List Oper} {o : Oper} {a : Act} {w : World} {Q : Exit → Act → World → Prop} (hw : Region.wanted o (yielded ops a.tmps) = true)
    (h : ∀ K : Act → World → Prop, (∀ a w, wpList P ops Q rest a w → K a w) → o.wp P a w K Q) : wpList P ops Q (o :: rest) a w :=
  wpList_step fun K hK => by rw [if_pos hw]; exact h K hK
/-- Counts that are loaded whole. -/
theorem wpList_counts {ops : Array Oper} {rest : List Oper} {o : Oper} {a : Act} {w : World} {Q : Exit → Act → World → Prop} (hw : Region.wanted o (yielded ops a.tmps) = true) (x : Operand) (ho : o.op = .load 71 x)
    (g : Nat) (hx : a.eval x = .pointer (some ⟨g, 0, none⟩)) (c : Nat → Nat) (hg : RowC g c w) (h : wpList Tryd.prog ops Q rest (a.put o.dst (.agg (cnt c))) w) : wpList Tryd.prog ops Q (o :: rest) a w :=
  wpList_wanted hw fun _ hK => wp_load_row 71 x ho g hx 71 (cnt c) (0, 0) _ hg Tryd.underlying71 rfl (size22 c) (hK _ _ h)
theorem wpList_table {ops : Array Oper} {rest : List Oper} {o : Oper} {a : Act} {w : World} {Q : Exit → Act → World → Prop} (hg : o.guard = none) (x y : Operand) (ho : o.op = .build 176 #[(0, x), (1, y)]) (c : Nat → Nat) (s : ByteArray)
    (hx : a.eval x = .agg (cnt c)) (hy : a.eval y = .string s) (h : wpList Tryd.prog ops Q rest (a.put o.dst (.agg ((cnt c).push (.string s)))) w) : wpList Tryd.prog ops Q (o :: rest) a w := by
  have e : Tryd.prog.built 176 ((#[(0, x), (1, y)] : Array (Nat × Operand)).map fun (i, x) => (i, a.eval x)).toList = some ((cnt c).push (.string s)) := by
    have := built66 c s
    simp only [List.map_toArray, List.map_cons, List.map_nil, hx, hy]
    exact this
  refine wpList_build hg 176 _ ho (by rw [e]; rfl) ?_
  rw [e]
  exact h

set_option maxHeartbeats 1000000 in
theorem New_yes (c : Nat → Nat) (hc : ∀ i, c i < 256) (s : ByteArray) (hs : s.size ≤ maxLen) (h : Right c s.data.toList) (w : World) :
    Calls Tryd.prog 78 #[.agg (cnt c), .string s] w fun e w' => ∃ g, e = .returned (.tuple #[.pointer (some ⟨g, 0, none⟩), .int .i64 0]) ∧ Tbl g c s w' ∧ w.heap.size ≤ g ∧ Below w.heap.size w w' := by
  have HR0 := Lib.hid (RowC.new c w)
  have HB0 := Lib.hid (below_box w (.cells (cnt c) 71))
  have hsz : s.data.toList.length = s.size := by simp
  have h1 := fun W => counted_any c hc s.size W
  rw [show decide (off c 16 = s.size ∧ 1 ≤ s.size ∧ s.size ≤ 256) = true by rw [decide_eq_true_iff, ← hsz]; exact ⟨h.sum, h.some, h.few⟩] at h1
  have h2 := fun W => single_any s hs W
  rw [show decide s.data.toList.Nodup = true by rw [decide_eq_true_iff]; exact h.once] at h2
  have H1 := Lib.hid h1
  have H2 := Lib.hid h2
  have H3 := Lib.hid (fun W => free_yes c hc h.free W)
  clear h1 h2 hsz h
  unfold maxLen at hs
  go_enter Tryd.func78, Tryd.ntmps78
  go_wp2_with (refine wpList_counts (by rfl) _ rfl w.heap.size rfl c HR0.out ?_)
  go_at_call 83
  refine (H1.out _).mono ?_
  rintro e w1 ⟨rfl, b1⟩
  have HR1 := Lib.hid (HR0.out.on b1)
  have HB1 := Lib.hid (HB0.out.trans (b1.mono HB0.out.size))
  clear b1
  go_wp2_with fail
  go_at_call 84
  refine (H2.out _).mono ?_
  rintro e w2 ⟨rfl, b2⟩
  have HR2 := Lib.hid (HR1.out.on b2)
  have HB2 := Lib.hid (HB1.out.trans (b2.mono HB1.out.size))
  clear b2
  go_wp2_with (refine wpList_counts (by rfl) _ rfl w.heap.size rfl c HR2.out ?_)
  go_at_call 85
  refine (H3.out _).mono ?_
  rintro e w3 ⟨rfl, b3⟩
  have HR3 := Lib.hid (HR2.out.on b3)
  have HB3 := Lib.hid (HB2.out.trans (b3.mono HB2.out.size))
  clear b3
  go_wp2_with (first
    | refine wpList_counts (by rfl) _ rfl w.heap.size rfl c HR3.out ?_
    | refine wpList_table rfl _ _ rfl c s rfl rfl ?_)
  go_ret2
  exact ⟨w3.heap.size, rfl, heap_alloc_new _ _, HB3.out.size, HB3.out.alloc HB3.out.size _⟩
set_option maxHeartbeats 1000000 in
theorem New_no (c : Nat → Nat) (hc : ∀ i, c i < 256) (s : ByteArray) (hs : s.size ≤ maxLen) (h : ¬ Right c s.data.toList) (w : World) :
    Calls Tryd.prog 78 #[.agg (cnt c), .string s] w fun e w' => e = .returned (.tuple #[.pointer none, .int .i64 5]) ∧ Below w.heap.size w w' := by
  have HR0 := Lib.hid (RowC.new c w)
  have HB0 := Lib.hid (below_box w (.cells (cnt c) 71))
  have hsz : s.data.toList.length = s.size := by simp
  have h1 := fun W => counted_any c hc s.size W
  have h2 := fun W => single_any s hs W
  have h3 : off c 16 = s.size ∧ 1 ≤ s.size ∧ s.size ≤ 256 → s.data.toList.Nodup → ∃ m, m < 16 ∧ 2 ^ (m + 1) ≤ fst c m + c m := by
    intro a b
    apply Classical.byContradiction
    intro hno
    refine h ⟨by rw [hsz]; exact a.1, by rw [hsz]; exact a.2.1, by rw [hsz]; exact a.2.2, b, fun n hn => ?_⟩
    apply Nat.lt_of_not_le
    exact fun hle => hno ⟨n, hn, hle⟩
  have HH3 := Lib.hid h3
  clear hsz h h3
  by_cases q1 : off c 16 = s.size ∧ 1 ≤ s.size ∧ s.size ≤ 256
  · rw [decide_eq_true q1] at h1
    by_cases q2 : s.data.toList.Nodup
    · rw [decide_eq_true q2] at h2
      obtain ⟨m, hm, hle⟩ := HH3.out q1 q2
      have H1 := Lib.hid h1
      have H2 := Lib.hid h2
      have H3 := Lib.hid (fun W => free_no c hc m hm hle W)
      clear h1 h2 q1 q2 HH3 hm hle
      unfold maxLen at hs
      go_enter Tryd.func78, Tryd.ntmps78
      go_wp2_with (refine wpList_counts (by rfl) _ rfl w.heap.size rfl c HR0.out ?_)
      go_at_call 83
      refine (H1.out _).mono ?_
      rintro e w1 ⟨rfl, b1⟩
      have HR1 := Lib.hid (HR0.out.on b1)
      have HB1 := Lib.hid (HB0.out.trans (b1.mono HB0.out.size))
      clear b1
      go_wp2_with fail
      go_at_call 84
      refine (H2.out _).mono ?_
      rintro e w2 ⟨rfl, b2⟩
      have HR2 := Lib.hid (HR1.out.on b2)
      have HB2 := Lib.hid (HB1.out.trans (b2.mono HB1.out.size))
      clear b2
      go_wp2_with (refine wpList_counts (by rfl) _ rfl w.heap.size rfl c HR2.out ?_)
      go_at_call 85
      refine (H3.out _).mono ?_
      rintro e w3 ⟨rfl, b3⟩
      have HB3 := Lib.hid (HB2.out.trans (b3.mono HB2.out.size))
      clear b3
      go_wp2
      go_ret2
      exact ⟨rfl, HB3.out⟩
    · rw [decide_eq_false q2] at h2
      have H1 := Lib.hid h1
      have H2 := Lib.hid h2
      clear h1 h2 q1 q2 HH3
      unfold maxLen at hs
      go_enter Tryd.func78, Tryd.ntmps78
      go_wp2_with (refine wpList_counts (by rfl) _ rfl w.heap.size rfl c HR0.out ?_)
      go_at_call 83
      refine (H1.out _).mono ?_
      rintro e w1 ⟨rfl, b1⟩
      have HB1 := Lib.hid (HB0.out.trans (b1.mono HB0.out.size))
      clear b1
      go_wp2_with fail
      go_at_call 84
      refine (H2.out _).mono ?_
      rintro e w2 ⟨rfl, b2⟩
      have HB2 := Lib.hid (HB1.out.trans (b2.mono HB1.out.size))
      clear b2
      go_wp2
      go_ret2
      exact ⟨rfl, HB2.out⟩
  · rw [decide_eq_false q1] at h1
    have H1 := Lib.hid h1
    clear h1 h2 q1 HH3
    unfold maxLen at hs
    go_enter Tryd.func78, Tryd.ntmps78
    go_wp2_with (refine wpList_counts (by rfl) _ rfl w.heap.size rfl c HR0.out ?_)
    go_at_call 83
    refine (H1.out _).mono ?_
    rintro e w1 ⟨rfl, b1⟩
    have HB1 := Lib.hid (HB0.out.trans (b1.mono HB0.out.size))
    clear b1
    go_wp2
    go_ret2
    exact ⟨rfl, HB1.out⟩

theorem run_load22 (w : World) (k : Nat) (c : Nat → Nat) (h : ∀ i, i < 16 → w.cell? ⟨k, i, none⟩ = some (.int .u8 (c i : Nat))) : (loadVar 71 ⟨k, 0, none⟩).run Tryd.prog w = .ok (.agg (cnt c)) w := by
  have hl : (loadCells ⟨k, 0, none⟩ (cnt c).toList.length).run Tryd.prog w = .ok (cnt c).toList.toArray w :=
    run_loadCells_list (P := Tryd.prog) w ⟨k, 0, none⟩ (cnt c).toList (fun j v hv => by
      have hadd : (⟨k, 0, none⟩ : Addr).add j = ⟨k, j, none⟩ := by unfold Addr.add; split <;> simp_all
      have hj : j < 16 := by have := (List.getElem?_eq_some_iff.1 hv).1; simpa [cnt_size] using this
      rw [hadd, h j hj]
      rw [Array.getElem?_toList, cnt_at c j hj] at hv
      exact hv)
  have hi := size22 c
  cases hq : Tryd.prog.info? 71 with
  | none => simp [hq] at hi
  | some i =>
    have hs : i.size = (cnt c).size := by simpa [hq] using hi
    have hagg : (isAgg 71).run Tryd.prog w = .ok true w := by
      unfold isAgg
      rw [Sem.run_bind, run_underlying Tryd.underlying71 w]
      simp
    simp only [Array.length_toList, Array.toArray_toList] at hl
    simp [loadVar, Sem.run_bind, hagg, sizeOf, typeInfo, hq, hs, hl]
theorem wpList_load22 {ops : Array Oper} {rest : List Oper} {o : Oper} {a : Act} {w : World} {Q : Exit → Act → World → Prop} (hgd : o.guard = none) (x : Operand) (ho : o.op = .load 71 x)
    (k : Nat) (hx : a.eval x = .pointer (some ⟨k, 0, none⟩)) (c : Nat → Nat) (hk : ∀ i, i < 16 → w.cell? ⟨k, i, none⟩ = some (.int .u8 (c i : Nat))) (h : wpList Tryd.prog ops Q rest (a.put o.dst (.agg (cnt c))) w) : wpList Tryd.prog ops Q (o :: rest) a w :=
  wpList_plain hgd fun _ hK => by
    unfold Oper.wp execOp
    simp only [ho, hx, Instr.loadAt, Instr.sureAddr, Sem.run_bind, Sem.run_pure, Result.andThen_ok, run_load22 w k c hk]
    exact hK _ _ h
end Go.Proofs.YtfohgocdabgbgaaDoor
