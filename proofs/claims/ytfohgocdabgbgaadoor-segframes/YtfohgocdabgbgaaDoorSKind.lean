/- What a segment is: IsFrame, IsScan, IsTag, MustFrame. -/
import Derived.Test.YtfohgocdabgbgaaDoorSParse2
import Derived.Lib.LazyBuf
namespace Go.Proofs.YtfohgocdabgbgaaDoor
open Go.RowKit

/-- append(v, x...): x lies somewhere. -/
theorem wpList_appRV {α : Type} {cs : α → Array Value} {n : Nat} (hn : ∀ a, (cs a).size = n) (h1 : ∀ a, (cs a).all (·.oneCell') = true) {T S : TypeId} (z : Value) (mb : Nat) (hi : (Tryd.prog.info? T).map (fun i => (i.zero, i.size, i.bytes)) = some (some z, n, mb)) (hz : z.cells.size = n) (hn0 : 0 < n) (hmb : mb ≤ 1000) (hS : Tryd.prog.underlying S = some (.slice T))
    {ops : Array Oper} {rest : List Oper} {o : Oper} {a : Act} {Q : Exit → Act → World → Prop} {w0 : World} (hgd : o.guard = none) (s x : Operand)
    (ho : o.op = .call { callee := .builtin .append, args := #[s, x], argTypes := #[S, S] })
    (B : Nat) (v : Value) (acc l : List α) (hs : a.eval s = v) (b off m c : Nat) (hm : l.length = m) (hx : a.eval x = .slice (some ⟨b, off, none⟩) m c)
    (hc : ∀ j (h : j < l.length) i, i < n → w0.cell? ⟨b, off + (j * n + i), none⟩ = (cs l[j])[i]?)
    (hown : OwnR T n cs B v acc w0) (hlen : acc.length + l.length ≤ 1000000) (hB : B ≤ w0.heap.size)
    (h : ∀ v' w', OwnR T n cs B v' (acc ++ l) w' → Below B w0 w' → Lib.OthersKept T none w0 w' → wpList Tryd.prog ops Q rest (a.put o.dst v') w') :
    wpList Tryd.prog ops Q (o :: rest) a w0 := by
  subst hm
  obtain ⟨i0, hi0, hz0, hz1, hz2⟩ := info_parts hi
  have hlr := rowC_length hn l
  refine wpList_append_own _ hgd s x S ho B T i0 z n mb hS hi0 hz0 hz1 hz2 hz hn0 v acc.length (rowC cs acc) hs hown ⟨b, off, none⟩ l.length c (rowC cs l) hx hlr ?_ ?_ (by unfold maxLen; omega) ?_ hB ?_
  · intro j u hj
    have hjl : j < l.length * n := by rw [← hlr]; exact (List.getElem?_eq_some_iff.1 hj).1
    have h2 : j / n < l.length := Nat.div_lt_of_lt_mul (by rw [Nat.mul_comm]; exact hjl)
    have h3 : j % n < n := Nat.mod_lt _ hn0
    have e : j / n * n + j % n = j := by rw [Nat.mul_comm]; exact Nat.div_add_mod j n
    have h4 := hc (j / n) h2 (j % n) h3
    have h5 := rowC_at hn l (j / n) (j % n) h2 h3
    rw [e] at h4 h5
    rw [add_none, h4, ← h5, hj]
  · intro u hu
    simp only [rowC, List.mem_flatMap] at hu
    obtain ⟨e, _, hu⟩ := hu
    have := h1 e
    rw [Array.all_eq_true_iff_forall_mem] at this
    exact this u (by simpa using hu)
  · have := Nat.mul_le_mul hlen hmb
    omega
  · intro v' w' hown' hg _
    refine h v' w' ?_ ((Below.refl B w0).grown hg hB (fun k hk => (World.ownsRow.lt hown k hk).1)) ((Lib.OthersKept.refl T none w0).grown hg (Lib.ownsRow_kind hown))
    unfold OwnR
    rw [List.length_append, rowC_append]
    exact hown'
theorem OwnR.empty {α : Type} {T : TypeId} {n : Nat} {cs : α → Array Value} (w : World) : OwnR T n cs w.heap.size (.slice (some ⟨w.heap.size, 0, none⟩) 0 0) [] (w.alloc (.cells #[] T)) := by
  unfold OwnR
  exact World.ownsRow_lit w #[] 0 (Nat.le_refl _) (by unfold maxLen; omega) (by simp)
set_option maxHeartbeats 1000000 in
theorem CloneP (v : Value) (l : List PT) (hl : l.length ≤ 1000) (w : World) (hv : RowV 4 cellsP v l w) :
    Calls Tryd.prog 58 #[v] w fun e w' => ∃ u, e = .returned u ∧ OwnR 80 4 cellsP w.heap.size u l w' ∧ Below w.heap.size w w' := by
  obtain ⟨p, c, rfl, ⟨rfl, rfl, rfl⟩ | ⟨b, o, rfl, hh, hc⟩⟩ := hv
  · clear hl
    simp only [List.length_nil]
    have x0 : ∀ w, (binOp .eql 42 (.slice none 0 0) (.slice none 0 0)).run Tryd.prog w = .ok (.bool true) w := fun w => Lib.run_eql_slice_nil w 42 80 none 0 0 0 0 Tryd.underlying42
    go_enter Tryd.func58, Tryd.ntmps58
    go_wp2
    go_ret
    exact ⟨_, rfl, OwnR.nil, Below.refl _ _⟩
  · have HC : Hid (∀ j (h : j < l.length) i, i < 4 → (w.alloc (.cells #[] 80)).cell? ⟨b, o + (j * 4 + i), none⟩ = (cellsP l[j])[i]?) := by
      intro j h i hi
      rw [(below_new w (.cells #[] 80)).cell (p := ⟨b, _, none⟩) hh]
      exact hc j h i hi
    have HL := Lib.hid hl
    clear hc hl
    generalize hm : l.length = m
    have HM := Lib.hid hm
    clear hm
    have x0 : ∀ w, (binOp .eql 42 (.slice (some ⟨b, o, none⟩) m c) (.slice none 0 0)).run Tryd.prog w = .ok (.bool false) w := fun w => Lib.run_eql_slice_nil w 42 80 _ m c 0 0 Tryd.underlying42
    go_enter Tryd.func58, Tryd.ntmps58
    go_wp2_with (at_builtin; refine wpList_appRV cellsP_size cellsP_one _ _ info80 (cellsP_size _) (by decide) (by decide) Tryd.underlying42 rfl _ _ rfl w.heap.size _ [] l rfl b o m c HM.out rfl HC.out (OwnR.empty w) (by have := HL.out; simp only [List.length_nil]; omega) (by rw [size_alloc]; omega) ?_; intro v1 w1 ho hb hk; have HO := Lib.hid ho; have HB := Lib.hid ((below_new w (.cells #[] 80)).trans hb); clear ho hb hk)
    go_ret
    exact ⟨_, rfl, HO.out, HB.out⟩
set_option maxHeartbeats 1000000 in
theorem CloneK (v : Value) (l : List KT) (hl : l.length ≤ 1000) (w : World) (hv : RowV 3 cellsK v l w) :
    Calls Tryd.prog 40 #[v] w fun e w' => ∃ u, e = .returned u ∧ OwnR 117 3 cellsK w.heap.size u l w' ∧ Below w.heap.size w w' := by
  obtain ⟨p, c, rfl, ⟨rfl, rfl, rfl⟩ | ⟨b, o, rfl, hh, hc⟩⟩ := hv
  · clear hl
    simp only [List.length_nil]
    have x0 : ∀ w, (binOp .eql 47 (.slice none 0 0) (.slice none 0 0)).run Tryd.prog w = .ok (.bool true) w := fun w => Lib.run_eql_slice_nil w 47 117 none 0 0 0 0 Tryd.underlying47
    go_enter Tryd.func40, Tryd.ntmps40
    go_wp2
    go_ret
    exact ⟨_, rfl, OwnR.nil, Below.refl _ _⟩
  · have HC : Hid (∀ j (h : j < l.length) i, i < 3 → (w.alloc (.cells #[] 117)).cell? ⟨b, o + (j * 3 + i), none⟩ = (cellsK l[j])[i]?) := by
      intro j h i hi
      rw [(below_new w (.cells #[] 117)).cell (p := ⟨b, _, none⟩) hh]
      exact hc j h i hi
    have HL := Lib.hid hl
    clear hc hl
    generalize hm : l.length = m
    have HM := Lib.hid hm
    clear hm
    have x0 : ∀ w, (binOp .eql 47 (.slice (some ⟨b, o, none⟩) m c) (.slice none 0 0)).run Tryd.prog w = .ok (.bool false) w := fun w => Lib.run_eql_slice_nil w 47 117 _ m c 0 0 Tryd.underlying47
    go_enter Tryd.func40, Tryd.ntmps40
    go_wp2_with (at_builtin; refine wpList_appRV cellsK_size cellsK_one _ _ info117 (cellsK_size _) (by decide) (by decide) Tryd.underlying47 rfl _ _ rfl w.heap.size _ [] l rfl b o m c HM.out rfl HC.out (OwnR.empty w) (by have := HL.out; simp only [List.length_nil]; omega) (by rw [size_alloc]; omega) ?_; intro v1 w1 ho hb hk; have HO := Lib.hid ho; have HB := Lib.hid ((below_new w (.cells #[] 117)).trans hb); clear ho hb hk)
    go_ret
    exact ⟨_, rfl, HO.out, HB.out⟩

set_option maxHeartbeats 2000000 in
theorem own_any (z h u : Int) (v : Value) (l : List PT) (hl : l.length ≤ 1000) (w : World) (hv : RowV 4 cellsP v l w) :
    Calls Tryd.prog 39 #[.agg #[.int .i64 z, .int .i64 h, .int .i64 u, v]] w fun e w' => ∃ v', e = .returned (.agg #[.int .i64 z, .int .i64 h, .int .i64 u, v']) ∧ OwnR 80 4 cellsP w.heap.size v' l w' ∧ Below w.heap.size w w' := by
  obtain ⟨p, m, c, rfl, hm⟩ := hv.shape
  obtain ⟨W, hW⟩ : ∃ W, W = (w.alloc (.cells #[.int .i64 z, .int .i64 h, .int .i64 u, .slice p m c] 44)).alloc (.cells #[.int .i64 0, .int .i64 0, .int .i64 0, .slice none 0 0] 44) := ⟨_, rfl⟩
  have hb : Below w.heap.size w W := by rw [hW]; exact (below_new _ _).alloc (by rw [size_alloc]; omega) _
  have g0 : W.heap[w.heap.size]? = some (.cells #[.int .i64 z, .int .i64 h, .int .i64 u, .slice p m c] 44 (0, 0)) := by
    rw [hW, Below.heap_alloc _ _ _ (by rw [size_alloc]; omega)]
    exact heap_alloc_new _ _
  have g1 : W.heap[w.heap.size + 1]? = some (.cells #[.int .i64 0, .int .i64 0, .int .i64 0, .slice none 0 0] 44 (0, 0)) := by
    have h := heap_alloc_new (w.alloc (.cells #[.int .i64 z, .int .i64 h, .int .i64 u, .slice p m c] 44)) (.cells #[.int .i64 0, .int .i64 0, .int .i64 0, .slice none 0 0] 44)
    rw [size_alloc] at h
    rw [hW]
    exact h
  have HC := Lib.hid (CloneP (.slice p m c) l hl W (hv.on cellsP_size hb))
  have x0 : W.cell? ⟨w.heap.size, 3, none⟩ = some (.slice p m c) := Lib.cell_of_heap g0 3
  have HB := Lib.hid hb
  have G0 := Lib.hid g0
  have G1 := Lib.hid g1
  have HWW := Lib.hid hW
  have HSZ : Hid (w.heap.size + 1 < W.heap.size) := (Array.getElem?_eq_some_iff.1 g1).1
  clear hv hm hW hb g0 g1
  go_enter Tryd.func39, Tryd.ntmps39
  go_upto_region 1 with fail
  rw [← HWW.out]
  clear HWW
  go_wp2_with (go_at_call 58; refine HC.out.mono ?_; rintro e w1 ⟨v1, rfl, ho, hb⟩; obtain ⟨p1, m1, c1, rfl, hm1⟩ := ho.shape; have HO1 := Lib.hid ho; have HB1 := Lib.hid (HB.out.trans (hb.mono HB.out.size)); have g0 := (hb.block _ (by have := HSZ.out; omega)).trans G0.out; have g1 := (hb.block _ HSZ.out).trans G1.out; have K0 := Lib.hid g0; have K1 := Lib.hid g1; have y0 : w1.cell? ⟨w.heap.size, 0, none⟩ = some (.int .i64 z) := Lib.cell_of_heap g0 0; have y1 : w1.cell? ⟨w.heap.size, 1, none⟩ = some (.int .i64 h) := Lib.cell_of_heap g0 1; have y2 : w1.cell? ⟨w.heap.size, 2, none⟩ = some (.int .i64 u) := Lib.cell_of_heap g0 2; have y3 : w1.cell? ⟨w.heap.size, 3, none⟩ = some (.slice p m c) := Lib.cell_of_heap g0 3; have f3 := Lib.frozen_of_heap g0 3; have z0 : w1.cell? ⟨w.heap.size + 1, 0, none⟩ = some (.int .i64 0) := Lib.cell_of_heap g1 0; have z1 : w1.cell? ⟨w.heap.size + 1, 1, none⟩ = some (.int .i64 0) := Lib.cell_of_heap g1 1; have z2 : w1.cell? ⟨w.heap.size + 1, 2, none⟩ = some (.int .i64 0) := Lib.cell_of_heap g1 2; have z3 : w1.cell? ⟨w.heap.size + 1, 3, none⟩ = some (.slice none 0 0) := Lib.cell_of_heap g1 3; have k0 := Lib.frozen_of_heap g1 0; have k1 := Lib.frozen_of_heap g1 1; have k2 := Lib.frozen_of_heap g1 2; have k3 := Lib.frozen_of_heap g1 3; clear ho hm1 hb g0 g1 HC x0)
  have hF := four _ (w.heap.size + 1) _ _ _ _ (.int .i64 z) (.int .i64 h) (.int .i64 u) (.slice p1 m1 c1) 44 (0, 0) ((heap_setCell_other w1 ⟨w.heap.size, 3, none⟩ (w.heap.size + 1) (.slice p1 m1 c1) (by show w.heap.size + 1 ≠ w.heap.size; omega)).trans K1.out)
  refine bodyPost_ret_by (results_cell_row rfl _ _ (w.heap.size + 1) 44 _ (0, 0) _ rfl hF Tryd.underlying44 rfl size44) rfl ⟨.slice p1 m1 c1, rfl, ?_, ?_⟩
  · have o1 : OwnR 80 4 cellsP w.heap.size (.slice p1 m1 c1) l w1 := HO1.out.mono HB.out.size
    have o2 := o1.setCell (i := 3) (u := .slice p1 m1 c1) K0.out (by decide)
    have hk := (heap_setCell_other w1 ⟨w.heap.size, 3, none⟩ (w.heap.size + 1) (.slice p1 m1 c1) (by show w.heap.size + 1 ≠ w.heap.size; omega)).trans K1.out
    exact o2.but hk (by decide) ((((But.refl _ _).setCell 0 _).setCell 1 _).setCell 2 _ |>.setCell 3 _)
  · exact below_cell (below_cell (below_cell (below_cell (below_cell HB1.out (Nat.le_refl _) _) (Nat.le_succ _) _) (Nat.le_succ _) _) (Nat.le_succ _) _) (Nat.le_succ _) _
theorem results_row_tmp {fn : Func} {p u : Tmp} {ty : TypeId} (h : fn.results = #[.cell p ty, .tmp u]) (tmps : Array Value) (w : World) (g : Nat) (cs : Array Value)
    (hp : tmps.getD p undef = .pointer (some ⟨g, 0, none⟩)) (hl : (loadVar ty ⟨g, 0, none⟩).run Tryd.prog w = .ok (.agg cs) w) (v : Value) (hv : tmps.getD u undef = v) :
    (results fn tmps).run Tryd.prog w = .ok (.tuple #[.agg cs, v]) w := by
  have hp' : tmps[p]?.getD undef = .pointer (some ⟨g, 0, none⟩) := by simpa using hp
  have hv' : tmps[u]?.getD undef = v := by simpa using hv
  simp [results, h, hp', hv', asAddr, hl]
set_option maxHeartbeats 2000000 in
theorem IsFrame_gen (V : Value) (ok : Bool) (z h u : Int) (v : Value) (l : List PT) (hl : l.length ≤ 1000) (w : World) (hv : RowV 4 cellsP v l w)
    (hA : ∀ w, (Instr.typeAssert V 23 44 true).run Tryd.prog w = .ok (.tuple #[.agg #[.int .i64 z, .int .i64 h, .int .i64 u, v], .bool ok]) w) :
    Calls Tryd.prog 14 #[V] w fun e w' => ∃ v', e = .returned (.tuple #[.agg #[.int .i64 z, .int .i64 h, .int .i64 u, v'], .bool ok]) ∧ OwnR 80 4 cellsP w.heap.size v' l w' ∧ Below w.heap.size w w' := by
  obtain ⟨p, m, c, rfl, hm⟩ := hv.shape
  obtain ⟨W, hW⟩ : ∃ W, W = (w.alloc (.cells #[.int .i64 0, .int .i64 0, .int .i64 0, .slice none 0 0] 44)).alloc (.cells #[.int .i64 z, .int .i64 h, .int .i64 u, .slice p m c] 44) := ⟨_, rfl⟩
  have hb : Below w.heap.size w W := by rw [hW]; exact (below_new _ _).alloc (by rw [size_alloc]; omega) _
  have g1 : W.heap[w.heap.size]? = some (.cells #[.int .i64 0, .int .i64 0, .int .i64 0, .slice none 0 0] 44 (0, 0)) := by
    rw [hW, Below.heap_alloc _ _ _ (by rw [size_alloc]; omega)]
    exact heap_alloc_new _ _
  have g0 : W.heap[w.heap.size + 1]? = some (.cells #[.int .i64 z, .int .i64 h, .int .i64 u, .slice p m c] 44 (0, 0)) := by
    have h := heap_alloc_new (w.alloc (.cells #[.int .i64 0, .int .i64 0, .int .i64 0, .slice none 0 0] 44)) (.cells #[.int .i64 z, .int .i64 h, .int .i64 u, .slice p m c] 44)
    rw [size_alloc] at h
    rw [hW]
    exact h
  have HC := Lib.hid (own_any z h u (.slice p m c) l hl W (hv.on cellsP_size hb))
  have HB := Lib.hid hb
  have G1 := Lib.hid g1
  have G0 := Lib.hid g0
  have HWW := Lib.hid hW
  clear hv hm hW hb g0 g1
  go_enter Tryd.func14, Tryd.ntmps14
  go_upto_region 2 with fail
  rw [← HWW.out]
  have x0 : W.cell? ⟨w.heap.size + 1, 0, none⟩ = some (.int .i64 z) := Lib.cell_of_heap G0.out 0
  have x1 : W.cell? ⟨w.heap.size + 1, 1, none⟩ = some (.int .i64 h) := Lib.cell_of_heap G0.out 1
  have x2 : W.cell? ⟨w.heap.size + 1, 2, none⟩ = some (.int .i64 u) := Lib.cell_of_heap G0.out 2
  have x3 : W.cell? ⟨w.heap.size + 1, 3, none⟩ = some (.slice p m c) := Lib.cell_of_heap G0.out 3
  clear HWW hA
  go_wp2_with (go_at_call 39; refine HC.out.mono ?_; rintro e w1 ⟨v1, rfl, ho, hb⟩; obtain ⟨p1, m1, c1, rfl, hm1⟩ := ho.shape; have HO1 := Lib.hid ho; have HB1 := Lib.hid (HB.out.trans (hb.mono HB.out.size)); have g1 := (hb.block _ (Array.getElem?_eq_some_iff.1 G1.out).1).trans G1.out; have K1 := Lib.hid g1; have z0 : w1.cell? ⟨w.heap.size, 0, none⟩ = some (.int .i64 0) := Lib.cell_of_heap g1 0; have z1 : w1.cell? ⟨w.heap.size, 1, none⟩ = some (.int .i64 0) := Lib.cell_of_heap g1 1; have z2 : w1.cell? ⟨w.heap.size, 2, none⟩ = some (.int .i64 0) := Lib.cell_of_heap g1 2; have z3 : w1.cell? ⟨w.heap.size, 3, none⟩ = some (.slice none 0 0) := Lib.cell_of_heap g1 3; have k0 := Lib.frozen_of_heap g1 0; have k1 := Lib.frozen_of_heap g1 1; have k2 := Lib.frozen_of_heap g1 2; have k3 := Lib.frozen_of_heap g1 3; clear ho hm1 hb g1 HC x0 x1 x2 x3)
  have hF := four w1 w.heap.size _ _ _ _ (.int .i64 z) (.int .i64 h) (.int .i64 u) (.slice p1 m1 c1) 44 (0, 0) K1.out
  refine bodyPost_ret_by (results_row_tmp rfl _ _ w.heap.size _ rfl (run_loadVar_row _ w.heap.size 44 44 _ (0, 0) _ hF Tryd.underlying44 rfl size44) _ rfl) rfl ⟨.slice p1 m1 c1, rfl, ?_, ?_⟩
  · exact (HO1.out.mono HB.out.size).but K1.out (by decide) ((((But.refl _ _).setCell 0 _).setCell 1 _).setCell 2 _ |>.setCell 3 _)
  · exact below_cell (below_cell (below_cell (below_cell HB1.out (Nat.le_refl _) _) (Nat.le_refl _) _) (Nat.le_refl _) _) (Nat.le_refl _) _
set_option maxHeartbeats 2000000 in
theorem MustFrame_gen (V : Value) (z h u : Int) (v : Value) (l : List PT) (hl : l.length ≤ 1000) (w : World) (hv : RowV 4 cellsP v l w)
    (hA : ∀ w, (Instr.typeAssert V 23 44 false).run Tryd.prog w = .ok (.agg #[.int .i64 z, .int .i64 h, .int .i64 u, v]) w) :
    Calls Tryd.prog 17 #[V] w fun e w' => ∃ v', e = .returned (.agg #[.int .i64 z, .int .i64 h, .int .i64 u, v']) ∧ OwnR 80 4 cellsP w.heap.size v' l w' ∧ Below w.heap.size w w' := by
  obtain ⟨p, m, c, rfl, hm⟩ := hv.shape
  have hb : Below w.heap.size w (w.alloc (.cells #[.int .i64 0, .int .i64 0, .int .i64 0, .slice none 0 0] 44)) := below_new _ _
  have g1 : (w.alloc (.cells #[.int .i64 0, .int .i64 0, .int .i64 0, .slice none 0 0] 44)).heap[w.heap.size]? = some (.cells #[.int .i64 0, .int .i64 0, .int .i64 0, .slice none 0 0] 44 (0, 0)) := heap_alloc_new _ _
  have HC := Lib.hid (own_any z h u (.slice p m c) l hl _ (hv.on cellsP_size hb))
  have HB := Lib.hid hb
  have G1 := Lib.hid g1
  clear hv hm hb g1
  go_enter Tryd.func17, Tryd.ntmps17
  go_wp2_with (go_at_call 39; refine HC.out.mono ?_; rintro e w1 ⟨v1, rfl, ho, hb⟩; obtain ⟨p1, m1, c1, rfl, hm1⟩ := ho.shape; have HO1 := Lib.hid ho; have HB1 := Lib.hid (HB.out.trans (hb.mono HB.out.size)); have g1 := (hb.block _ (Array.getElem?_eq_some_iff.1 G1.out).1).trans G1.out; have K1 := Lib.hid g1; have z0 : w1.cell? ⟨w.heap.size, 0, none⟩ = some (.int .i64 0) := Lib.cell_of_heap g1 0; have z1 : w1.cell? ⟨w.heap.size, 1, none⟩ = some (.int .i64 0) := Lib.cell_of_heap g1 1; have z2 : w1.cell? ⟨w.heap.size, 2, none⟩ = some (.int .i64 0) := Lib.cell_of_heap g1 2; have z3 : w1.cell? ⟨w.heap.size, 3, none⟩ = some (.slice none 0 0) := Lib.cell_of_heap g1 3; have k0 := Lib.frozen_of_heap g1 0; have k1 := Lib.frozen_of_heap g1 1; have k2 := Lib.frozen_of_heap g1 2; have k3 := Lib.frozen_of_heap g1 3; clear ho hm1 hb g1 HC hA)
  have hF := four w1 w.heap.size _ _ _ _ (.int .i64 z) (.int .i64 h) (.int .i64 u) (.slice p1 m1 c1) 44 (0, 0) K1.out
  refine bodyPost_ret_by (results_cell_row rfl _ _ w.heap.size 44 _ (0, 0) _ rfl hF Tryd.underlying44 rfl size44) rfl ⟨.slice p1 m1 c1, rfl, ?_, ?_⟩
  · exact (HO1.out.mono HB.out.size).but K1.out (by decide) ((((But.refl _ _).setCell 0 _).setCell 1 _).setCell 2 _ |>.setCell 3 _)
  · exact below_cell (below_cell (below_cell (below_cell HB1.out (Nat.le_refl _) _) (Nat.le_refl _) _) (Nat.le_refl _) _) (Nat.le_refl _) _
set_option maxHeartbeats 2000000 in
theorem IsScan_gen (V : Value) (ok : Bool) (f t h u : Int) (v : Value) (l : List KT) (hl : l.length ≤ 1000) (w : World) (hv : RowV 3 cellsK v l w)
    (hA : ∀ w, (Instr.typeAssert V 23 49 true).run Tryd.prog w = .ok (.tuple #[.agg #[v, .int .i64 f, .int .i64 t, .int .i64 h, .int .i64 u], .bool ok]) w) :
    Calls Tryd.prog 15 #[V] w fun e w' => ∃ v', e = .returned (.tuple #[.agg #[v', .int .i64 f, .int .i64 t, .int .i64 h, .int .i64 u], .bool ok]) ∧ OwnR 117 3 cellsK w.heap.size v' l w' ∧ Below w.heap.size w w' := by
  obtain ⟨p, m, c, rfl, hm⟩ := hv.shape
  obtain ⟨W, hW⟩ : ∃ W, W = (w.alloc (.cells #[.slice none 0 0, .int .i64 0, .int .i64 0, .int .i64 0, .int .i64 0] 49)).alloc (.cells #[.slice p m c, .int .i64 f, .int .i64 t, .int .i64 h, .int .i64 u] 49) := ⟨_, rfl⟩
  have hb : Below w.heap.size w W := by rw [hW]; exact (below_new _ _).alloc (by rw [size_alloc]; omega) _
  have g1 : W.heap[w.heap.size]? = some (.cells #[.slice none 0 0, .int .i64 0, .int .i64 0, .int .i64 0, .int .i64 0] 49 (0, 0)) := by
    rw [hW, Below.heap_alloc _ _ _ (by rw [size_alloc]; omega)]
    exact heap_alloc_new _ _
  have g0 : W.heap[w.heap.size + 1]? = some (.cells #[.slice p m c, .int .i64 f, .int .i64 t, .int .i64 h, .int .i64 u] 49 (0, 0)) := by
    have h := heap_alloc_new (w.alloc (.cells #[.slice none 0 0, .int .i64 0, .int .i64 0, .int .i64 0, .int .i64 0] 49)) (.cells #[.slice p m c, .int .i64 f, .int .i64 t, .int .i64 h, .int .i64 u] 49)
    rw [size_alloc] at h
    rw [hW]
    exact h
  have HC := Lib.hid (CloneK (.slice p m c) l hl W (hv.on cellsK_size hb))
  have HB := Lib.hid hb
  have G1 := Lib.hid g1
  have G0 := Lib.hid g0
  have HWW := Lib.hid hW
  clear hv hm hW hb g0 g1
  go_enter Tryd.func15, Tryd.ntmps15
  go_upto_region 2 with fail
  rw [← HWW.out]
  have x0 : W.cell? ⟨w.heap.size + 1, 0, none⟩ = some (.slice p m c) := Lib.cell_of_heap G0.out 0
  clear HWW hA
  go_wp2_with (go_at_call 40; refine HC.out.mono ?_; rintro e w1 ⟨v1, rfl, ho, hb⟩; obtain ⟨p1, m1, c1, rfl, hm1⟩ := ho.shape; have HO1 := Lib.hid ho; have HB1 := Lib.hid (HB.out.trans (hb.mono HB.out.size)); have g1 := (hb.block _ (Array.getElem?_eq_some_iff.1 G1.out).1).trans G1.out; have g0 := (hb.block _ (Array.getElem?_eq_some_iff.1 G0.out).1).trans G0.out; have K1 := Lib.hid g1; have K0 := Lib.hid g0; have z0 : w1.cell? ⟨w.heap.size, 0, none⟩ = some (.slice none 0 0) := Lib.cell_of_heap g1 0; have z1 : w1.cell? ⟨w.heap.size, 1, none⟩ = some (.int .i64 0) := Lib.cell_of_heap g1 1; have z2 : w1.cell? ⟨w.heap.size, 2, none⟩ = some (.int .i64 0) := Lib.cell_of_heap g1 2; have z3 : w1.cell? ⟨w.heap.size, 3, none⟩ = some (.int .i64 0) := Lib.cell_of_heap g1 3; have z4 : w1.cell? ⟨w.heap.size, 4, none⟩ = some (.int .i64 0) := Lib.cell_of_heap g1 4; have k0 := Lib.frozen_of_heap g1 0; have k1 := Lib.frozen_of_heap g1 1; have k2 := Lib.frozen_of_heap g1 2; have k3 := Lib.frozen_of_heap g1 3; have k4 := Lib.frozen_of_heap g1 4; have y0 : w1.cell? ⟨w.heap.size + 1, 0, none⟩ = some (.slice p m c) := Lib.cell_of_heap g0 0; have y1 : w1.cell? ⟨w.heap.size + 1, 1, none⟩ = some (.int .i64 f) := Lib.cell_of_heap g0 1; have y2 : w1.cell? ⟨w.heap.size + 1, 2, none⟩ = some (.int .i64 t) := Lib.cell_of_heap g0 2; have y3 : w1.cell? ⟨w.heap.size + 1, 3, none⟩ = some (.int .i64 h) := Lib.cell_of_heap g0 3; have y4 : w1.cell? ⟨w.heap.size + 1, 4, none⟩ = some (.int .i64 u) := Lib.cell_of_heap g0 4; have f0 := Lib.frozen_of_heap g0 0; clear ho hm1 hb g1 g0 HC x0)
  have hk := (heap_setCell_other w1 ⟨w.heap.size + 1, 0, none⟩ w.heap.size (.slice p1 m1 c1) (by show w.heap.size ≠ w.heap.size + 1; omega)).trans K1.out
  have hF := five _ w.heap.size _ _ _ _ _ (.slice p1 m1 c1) (.int .i64 f) (.int .i64 t) (.int .i64 h) (.int .i64 u) 49 (0, 0) hk
  refine bodyPost_ret_by (results_row_tmp rfl _ _ w.heap.size _ rfl (run_loadVar_row _ w.heap.size 49 49 _ (0, 0) _ hF Tryd.underlying49 rfl size49) _ rfl) rfl ⟨.slice p1 m1 c1, rfl, ?_, ?_⟩
  · have o2 := (HO1.out.mono HB.out.size).setCell (i := 0) (u := .slice p1 m1 c1) K0.out (by decide)
    exact o2.but hk (by decide) ((((But.refl _ _).setCell 0 _).setCell 1 _).setCell 2 _ |>.setCell 3 _ |>.setCell 4 _)
  · exact below_cell (below_cell (below_cell (below_cell (below_cell (below_cell HB1.out (Nat.le_succ _) _) (Nat.le_refl _) _) (Nat.le_refl _) _) (Nat.le_refl _) _) (Nat.le_refl _) _) (Nat.le_refl _) _
theorem size53 : (Tryd.prog.info? 53).map (·.size) = some 2 := by kernel_rfl
set_option maxHeartbeats 2000000 in
theorem IsTag_gen (V : Value) (ok : Bool) (z : Int) (s : ByteArray) (w : World)
    (hA : ∀ w, (Instr.typeAssert V 23 98 true).run Tryd.prog w = .ok (.tuple #[.agg #[.int .i64 z, .string s], .bool ok]) w) :
    Calls Tryd.prog 16 #[V] w fun e w' => e = .returned (.tuple #[.agg #[.int .i64 z, .string s], .bool ok]) ∧ Below w.heap.size w w' := by
  go_enter Tryd.func16, Tryd.ntmps16
  go_wp2
  have hF : ((w.alloc (.cells #[.int .i64 z, .string s] 53)).alloc (.cells #[.int .i64 z, .string s] 98)).heap[w.heap.size]? = some (.cells #[.int .i64 z, .string s] 53 (0, 0)) := by
    rw [Below.heap_alloc _ _ _ (by rw [size_alloc]; omega)]
    exact heap_alloc_new _ _
  refine bodyPost_ret_by (results_row_tmp rfl _ _ w.heap.size _ rfl (run_loadVar_row _ w.heap.size 53 53 _ (0, 0) _ hF Tryd.underlying53 rfl size53) _ rfl) rfl ⟨rfl, ?_⟩
  exact (below_new _ _).alloc (by rw [size_alloc]; omega) _
end Go.Proofs.YtfohgocdabgbgaaDoor
