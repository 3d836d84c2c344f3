/- Walks of package frame: Clone, counting; what a frame is, asked. -/
import Derived.Test.YtpnkjcahhpbpfaaFTog
import Derived.Lib.LazyBuf
namespace Go.Proofs.Ytpnkjcahhpbpfaa
open Go.RowKit

/-- append(v, x...): x lies somewhere. -/
theorem wpList_appRV {α : Type} {cs : α → Array Value} {n : Nat} (hn : ∀ a, (cs a).size = n) (h1 : ∀ a, (cs a).all (·.oneCell') = true) {T S : TypeId} (z : Value) (mb : Nat) (hi : (Try.prog.info? T).map (fun i => (i.zero, i.size, i.bytes)) = some (some z, n, mb)) (hz : z.cells.size = n) (hn0 : 0 < n) (hmb : mb ≤ 1000) (hS : Try.prog.underlying S = some (.slice T))
    {ops : Array Oper} {rest : List Oper} {o : Oper} {a : Act} {Q : Exit → Act → World → Prop} {w0 : World} (hgd : o.guard = none) (s x : Operand)
    (ho : o.op = .call { callee := .builtin .append, args := #[s, x], argTypes := #[S, S] })
    (B : Nat) (v : Value) (acc l : List α) (hs : a.eval s = v) (b off m c : Nat) (hm : l.length = m) (hx : a.eval x = .slice (some ⟨b, off, none⟩) m c)
    (hc : ∀ j (h : j < l.length) i, i < n → w0.cell? ⟨b, off + (j * n + i), none⟩ = (cs l[j])[i]?)
    (hown : OwnR T n cs B v acc w0) (hlen : acc.length + l.length ≤ 1000000) (hB : B ≤ w0.heap.size)
    (h : ∀ v' w', OwnR T n cs B v' (acc ++ l) w' → Below B w0 w' → Lib.OthersKept T none w0 w' → wpList Try.prog ops Q rest (a.put o.dst v') w') :
    wpList Try.prog ops Q (o :: rest) a w0 := by
  subst hm
  obtain ⟨i0, hi0, hz0, hz1, hz2⟩ := info_parts hi
  have hlr := rowC_length hn l
  refine wpList_append_own _ hgd s x S ho B T i0 z n mb hS hi0 hz0 hz1 hz2 hz hn0 v acc.length (rowC cs acc) hs hown ⟨b, off, none⟩ l.length c (rowC cs l) hx hlr ?_ ?_ (by unfold maxLen; omega) ?_ hB ?_
  · intro j u hj
    have hjl : j < l.length * n := by rw [← hlr]; exact (List.getElem?_eq_some_iff.1 hj).1
    have h2 : j / n < l.length := Nat.div_lt_of_lt_mul (by rw [Nat.mul_comm]; exact hjl)
    have h3 : j % n < n := Nat.mod_lt _ hn0
    have e : j / n * n + j % n = j := by rw [Nat.mul_comm]; exact Nat.div_add_mod j n
    have h4 := hc (j / n) h2 (j % n) h3
    have h5 := rowC_at hn l (j / n) (j % n) h2 h3
    rw [e] at h4 h5
    rw [add_none, h4, ← h5, hj]
  · intro u hu
    simp only [rowC, List.mem_flatMap] at hu
    obtain ⟨e, _, hu⟩ := hu
    have := h1 e
    rw [Array.all_eq_true_iff_forall_mem] at this
    exact this u (by simpa using hu)
  · have := Nat.mul_le_mul hlen hmb
    omega
  · intro v' w' hown' hg _
    refine h v' w' ?_ ((Below.refl B w0).grown hg hB (fun k hk => (World.ownsRow.lt hown k hk).1)) ((Lib.OthersKept.refl T none w0).grown hg (Lib.ownsRow_kind hown))
    unfold OwnR
    rw [List.length_append, rowC_append]
    exact hown'
theorem OwnR.empty {α : Type} {T : TypeId} {n : Nat} {cs : α → Array Value} (w : World) : OwnR T n cs w.heap.size (.slice (some ⟨w.heap.size, 0, none⟩) 0 0) [] (w.alloc (.cells #[] T)) := by
  unfold OwnR
  exact World.ownsRow_lit w #[] 0 (Nat.le_refl _) (by unfold maxLen; omega) (by simp)
set_option maxHeartbeats 1000000 in
theorem CloneF (v : Value) (l : List FP) (hl : l.length ≤ 1000) (w : World) (hv : RowV 2 cellsF v l w) :
    Calls Try.prog 33 #[v] w fun e w' => ∃ u, e = .returned u ∧ OwnR 62 2 cellsF w.heap.size u l w' ∧ Below w.heap.size w w' := by
  obtain ⟨p, c, rfl, ⟨rfl, rfl, rfl⟩ | ⟨b, o, rfl, hh, hc⟩⟩ := hv
  · clear hl
    simp only [List.length_nil]
    have x0 : ∀ w, (binOp .eql 28 (.slice none 0 0) (.slice none 0 0)).run Try.prog w = .ok (.bool true) w := fun w => Lib.run_eql_slice_nil w 28 62 none 0 0 0 0 Try.underlying28
    go_enter Try.func33, Try.ntmps33
    go_wp2
    go_ret
    exact ⟨_, rfl, OwnR.nil, Below.refl _ _⟩
  · have HC : Hid (∀ j (h : j < l.length) i, i < 2 → (w.alloc (.cells #[] 62)).cell? ⟨b, o + (j * 2 + i), none⟩ = (cellsF l[j])[i]?) := by
      intro j h i hi
      rw [(below_new w (.cells #[] 62)).cell (p := ⟨b, _, none⟩) hh]
      exact hc j h i hi
    have HL := Lib.hid hl
    clear hc hl
    generalize hm : l.length = m
    have HM := Lib.hid hm
    clear hm
    have x0 : ∀ w, (binOp .eql 28 (.slice (some ⟨b, o, none⟩) m c) (.slice none 0 0)).run Try.prog w = .ok (.bool false) w := fun w => Lib.run_eql_slice_nil w 28 62 _ m c 0 0 Try.underlying28
    go_enter Try.func33, Try.ntmps33
    go_wp2_with (at_builtin; refine wpList_appRV cellsF_size cellsF_one _ _ info62 (cellsF_size _) (by decide) (by decide) Try.underlying28 rfl _ _ rfl w.heap.size _ [] l rfl b o m c HM.out rfl HC.out (OwnR.empty w) (by have := HL.out; simp only [List.length_nil]; omega) (by rw [size_alloc]; omega) ?_; intro v1 w1 ho hb hk; have HO := Lib.hid ho; have HB := Lib.hid ((below_new w (.cells #[] 62)).trans hb); clear ho hb hk)
    go_ret
    exact ⟨_, rfl, HO.out, HB.out⟩
theorem results_row_tmp {fn : Func} {p u : Tmp} {ty : TypeId} (h : fn.results = #[.cell p ty, .tmp u]) (tmps : Array Value) (w : World) (g : Nat) (cs : Array Value)
    (hp : tmps.getD p undef = .pointer (some ⟨g, 0, none⟩)) (hl : (loadVar ty ⟨g, 0, none⟩).run Try.prog w = .ok (.agg cs) w) (v : Value) (hv : tmps.getD u undef = v) :
    (results fn tmps).run Try.prog w = .ok (.tuple #[.agg cs, v]) w := by
  have hp' : tmps[p]?.getD undef = .pointer (some ⟨g, 0, none⟩) := by simpa using hp
  have hv' : tmps[u]?.getD undef = v := by simpa using hv
  simp [results, h, hp', hv', asAddr, hl]
/-- The factors as they count. -/
def asF (l : List FP) : List FP := if l.length = 1 then [(1, 1)] else l
theorem size1F (w : World) : OwnR 62 2 cellsF w.heap.size (.slice (some ⟨w.heap.size, 0, none⟩) 1 1) [((1, 1) : FP)] (w.alloc (.cells (cellsF (1, 1)) 62)) := by
  have h := World.ownsRow_lit (base := w.heap.size) (e := 62) (size := 2) w (cellsF (1, 1)) 1 (Nat.le_refl _) (by unfold maxLen; omega) (by rw [cellsF_size])
  unfold OwnR
  rw [rowC_one]
  exact h
set_option maxHeartbeats 1000000 in
theorem counting_any (v : Value) (l : List FP) (hl : l.length ≤ 1000) (w : World) (hv : RowV 2 cellsF v l w) :
    Calls Try.prog 22 #[v] w fun e w' => ∃ u, e = .returned u ∧ OwnR 62 2 cellsF w.heap.size u (asF l) w' ∧ Below w.heap.size w w' := by
  have HC := Lib.hid (CloneF v l hl w hv)
  obtain ⟨p, m, c, rfl, hm⟩ := hv.shape
  have HM := Lib.hid hm.out
  clear hv hl hm
  unfold asF
  by_cases h1 : l.length = 1
  · rw [if_pos h1]
    have hm1 : ((m : Int) == 1) = true := by rw [beq_iff_eq]; have := HM.out; omega
    clear h1 HC
    go_enter Try.func22, Try.ntmps22
    go_wp2
    go_ret
    exact ⟨_, rfl, size1F w, below_new _ _⟩
  · rw [if_neg h1]
    have hm1 : ((m : Int) == 1) = false := by rw [beq_eq_false_iff_ne]; have := HM.out; omega
    clear h1
    go_enter Try.func22, Try.ntmps22
    go_wp2_with (go_at_call 33; refine HC.out.mono ?_; rintro e w1 ⟨u, rfl, ho, hb⟩; have HO := Lib.hid ho; have HB := Lib.hid hb; clear ho hb HC)
    go_ret
    exact ⟨_, rfl, HO.out, HB.out⟩
/-- A frame lies in block k: how many units, the greatest factors, its lists. -/
structure Fr (k : Nat) (a d H V : Nat) (p g : Value) (w : World) : Prop where
  box : w.heap[k]? = some (.cells #[.int .i64 (a : Nat), .int .i64 (d : Nat), .int .i64 (H : Nat), .int .i64 (V : Nat), p, g] 69 (0, 0))
section
variable {k a d H V : Nat} {p g : Value} {w w' : World}
theorem Fr.on (h : Fr k a d H V p g w) (hb : Below w.heap.size w w') : Fr k a d H V p g w' := ⟨by rw [hb.block _ (Array.getElem?_eq_some_iff.1 h.box).1]; exact h.box⟩
theorem Fr.c0 (h : Fr k a d H V p g w) : w.cell? ⟨k, 0, none⟩ = some (.int .i64 (a : Nat)) := Lib.cell_of_heap h.box 0
theorem Fr.c1 (h : Fr k a d H V p g w) : w.cell? ⟨k, 1, none⟩ = some (.int .i64 (d : Nat)) := Lib.cell_of_heap h.box 1
theorem Fr.c2 (h : Fr k a d H V p g w) : w.cell? ⟨k, 2, none⟩ = some (.int .i64 (H : Nat)) := Lib.cell_of_heap h.box 2
theorem Fr.c3 (h : Fr k a d H V p g w) : w.cell? ⟨k, 3, none⟩ = some (.int .i64 (V : Nat)) := Lib.cell_of_heap h.box 3
theorem Fr.c4 (h : Fr k a d H V p g w) : w.cell? ⟨k, 4, none⟩ = some p := Lib.cell_of_heap h.box 4
theorem Fr.c5 (h : Fr k a d H V p g w) : w.cell? ⟨k, 5, none⟩ = some g := Lib.cell_of_heap h.box 5
end
set_option maxHeartbeats 1000000 in
theorem Units_any (k a d H V : Nat) (p g : Value) (w : World) (h : Fr k a d H V p g w) :
    Calls Try.prog 15 #[.pointer (some ⟨k, 0, none⟩)] w fun e w' => e = .returned (.tuple #[.int .i64 (a : Nat), .int .i64 (d : Nat)]) ∧ Below w.heap.size w w' := by
  have x0 := h.c0
  have x1 := h.c1
  clear h
  go_enter Try.func15, Try.ntmps15
  go_wp2
  go_quiet (fail)
  go_wp2
  go_ret2
  exact ⟨rfl, below_drewN _ _ _⟩
set_option maxHeartbeats 1000000 in
theorem Unit_any (k a d H V : Nat) (hH : H ≤ 4) (hV : V ≤ 4) (p g : Value) (w : World) (h : Fr k a d H V p g w) :
    Calls Try.prog 16 #[.pointer (some ⟨k, 0, none⟩)] w fun e w' => e = .returned (.tuple #[.int .i64 (8 * H : Nat), .int .i64 (8 * V : Nat)]) ∧ Below w.heap.size w w' := by
  have x0 := h.c2
  have x1 := h.c3
  clear h
  go_enter Try.func16, Try.ntmps16
  go_wp2
  go_quiet (fail)
  go_wp2
  go_ret2
  exact ⟨by go_num, below_drewN _ _ _⟩
set_option maxHeartbeats 1000000 in
theorem has_any (k a d H V : Nat) (q : Option Addr) (m c : Nat) (g : Value) (z : Int) (w : World) (h : Fr k a d H V (.slice q m c) g w) :
    Calls Try.prog 23 #[.pointer (some ⟨k, 0, none⟩), .int .i64 z] w fun e w' => e = .returned (.bool (decide (0 ≤ z) && decide (z < (m : Int)))) ∧ w = w' := by
  have x0 := h.c4
  clear h
  by_cases h0 : 0 ≤ z
  · rw [decide_eq_true h0]
    go_enter Try.func23, Try.ntmps23
    go_wp2
    go_ret
    exact ⟨by simp, rfl⟩
  · rw [decide_eq_false h0]
    replace h0 : z < 0 := by omega
    go_enter Try.func23, Try.ntmps23
    go_wp2
    go_ret
    exact ⟨by simp, rfl⟩
end Go.Proofs.Ytpnkjcahhpbpfaa
