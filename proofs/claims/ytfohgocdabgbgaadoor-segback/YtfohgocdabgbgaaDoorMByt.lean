/- The bytes of segments: of tables, of a frame's beginning, of a scan's. -/
import Derived.Test.YtfohgocdabgbgaaDoorMWhole
namespace Go.Proofs.YtfohgocdabgbgaaDoor
open Go.RowKit

/-! The bytes of segments: of tables, of a frame's beginning, of a scan's. -/
/-- Which answer it is. -/
def WholeQ (z : Int) (S : ByteArray) (R : Prop) (T : ByteArray) (E : Int) : Prop :=
  (perr z S = 0 ∧ R ∧ T = ⟨(wbytes z S).toArray⟩ ∧ E = 0) ∨ (¬ (perr z S = 0 ∧ R) ∧ T = ⟨#[]⟩ ∧ E = 1)
def BytesP (z : Int) (S : ByteArray) (R : Prop) (w : World) (e : Ending) (w' : World) : Prop := ∃ T E, e = .returned (.tuple #[.string T, .int .i64 E]) ∧ WholeQ z S R T E ∧ Below w.heap.size w w'
theorem WholeP.out {z : Int} {S : ByteArray} {R : Prop} {w : World} {e : Ending} {w' : World} (h : WholeP z S R w e w') : ∃ T E, e = .returned (.tuple #[.string T, .int .i64 E]) ∧ WholeQ z S R T E ∧ Below w.heap.size w w' := by
  rcases h.1 with ⟨h1, h2, h3⟩ | ⟨h1, h3⟩
  · exact ⟨_, _, h3, .inl ⟨h1, h2, rfl, rfl⟩, h.2⟩
  · exact ⟨_, _, h3, .inr ⟨h1, rfl, rfl⟩, h.2⟩
set_option maxHeartbeats 2000000 in
set_option maxRecDepth 100000 in
theorem Bytes_quants (v : Value) (l : List QT) (hl : l.length ≤ 1000000) (hla : ∀ k, k ≤ l.length → (wquants (l.take k)).length ≤ 100000000) (hcc : ∀ x ∈ l, ∀ i, i < 64 → 0 ≤ x.2.2 i ∧ x.2.2 i < 65536) (w : World) (hT : Tab w) (hv : RowV 66 cellsQ v l w) (R : Prop) (S : ByteArray) (hS : S = ⟨(wquants l).toArray⟩)
    (hW : ∀ x, Tab x → RowV 66 cellsQ v l x → Calls Tryd.prog 32 #[.iface 62 (.agg #[v]), .string S] x fun e w' => WholeP 219 S R x e w') :
    Calls Tryd.prog 11 #[.iface 62 (.agg #[v])] w fun e w' => BytesP 219 S R w e w' := by
  obtain ⟨p, n, c, rfl, hn⟩ := hv.shape
  obtain ⟨w2, hw2⟩ : ∃ w2, w2 = (w.alloc (.cells #[.pointer none, .slice none 0 0] 95)).alloc (.cells #[.slice p n c] 62) := ⟨_, rfl⟩
  have hl2 : Below w.heap.size w w2 := by rw [hw2]; exact (below_new _ _).alloc (by rw [size_alloc]; omega) _
  have HB2 : Hid (Bld w.heap.size w.heap.size [] w2) := by rw [hw2]; exact (Bld.new w).on (below_new _ _)
  have HL2 := Lib.hid hl2
  have HG := Lib.hid (show w2.heap[w.heap.size + 1]? = some (.cells #[.slice p n c] 62 (0, 0)) from by
    have h := heap_alloc_new (w.alloc (.cells #[.pointer none, .slice none 0 0] 95)) (.cells #[.slice p n c] 62)
    rw [size_alloc] at h
    rw [hw2]
    exact h)
  have HN : Hid (Calls Tryd.prog 27 #[.pointer (some ⟨w.heap.size, 0, none⟩), .agg #[.slice p n c]] w2 fun e w' => e = .returned (.tuple #[]) ∧ Bld w.heap.size w.heap.size (wquants l) w' ∧ Below w.heap.size w2 w') := quants_w w.heap.size w.heap.size [] (.slice p n c) l hl (fun k hk => by have := hla k hk; simpa using this) hcc w hT rfl hv w2 hl2 HB2.out
  have HT : Hid (∀ x, Bld w.heap.size w.heap.size (wquants l) x → Calls Tryd.prog 33 #[.pointer (some ⟨w.heap.size, 0, none⟩)] x fun e w' => e = .returned (.string S) ∧ Below w.heap.size x w') := fun x hx => by rw [hS]; exact String_any _ _ _ x hx (by have := hx.lt; omega)
  have HWH : Hid (∀ x, Below w.heap.size w x → Calls Tryd.prog 32 #[.iface 62 (.agg #[.slice p n c]), .string S] x fun e w' => ∃ T E, e = .returned (.tuple #[.string T, .int .i64 E]) ∧ WholeQ 219 S R T E ∧ Below x.heap.size x w') := fun x hx => (hW x (hT.on hx) (hv.on cellsQ_size hx)).mono fun e w' h => h.out
  have a0 := fun w => no58 (t := 62) (by decide) (.agg #[.slice p n c]) w
  have a1 := fun w => no98 (t := 62) (by decide) (.agg #[.slice p n c]) w
  have a9 := fun w => yes62 (.agg #[.slice p n c]) w
  have HW2 := Lib.hid hw2
  clear hT hv hW hS hw2 hl2 hn hl hla hcc
  go_enter Tryd.func11, Tryd.ntmps11
  go_upto_region 13 with fail
  rw [← HW2.out]
  have x0 : w2.cell? ⟨w.heap.size + 1, 0, none⟩ = some (.slice p n c) := Lib.cell_of_heap HG.out 0
  clear a0 a1 a9 HW2
  go_wp2_with (first
    | (go_at_call 27; refine HN.out.mono ?_; rintro e w3 ⟨rfl, hr, hb3⟩; have H3 := Lib.hid hr; have HL3 := Lib.hid (HL2.out.trans hb3); clear hr hb3)
    | (go_at_call 33; refine (HT.out w3 H3.out).mono ?_; rintro e w4 ⟨rfl, hb4⟩; have HL4 := Lib.hid (HL3.out.trans hb4); clear hb4)
    | (go_at_call 32; refine (HWH.out w4 HL4.out).mono ?_; rintro e w5 ⟨T, E, rfl, hq, hb5⟩; have HQ := Lib.hid hq; have HL5 := Lib.hid (HL4.out.trans (hb5.mono HL4.out.size)); clear hb5 hq))
  go_ret2
  exact ⟨_, _, rfl, HQ.out, HL5.out⟩
set_option maxHeartbeats 2000000 in
set_option maxRecDepth 100000 in
theorem Bytes_huffs (v : Value) (l : List HT) (hl : l.length ≤ 1000000) (hla : ∀ k, k ≤ l.length → (whuffs (l.take k)).length ≤ 100000000) (hcc : ∀ x ∈ l, ∀ i, i < 16 → x.2.2.1 i < 256) (w : World) (hT : Tab w) (hv : RowV 19 cellsH v l w) (R : Prop) (S : ByteArray) (hS : S = ⟨(whuffs l).toArray⟩)
    (hW : ∀ x, Tab x → RowV 19 cellsH v l x → Calls Tryd.prog 32 #[.iface 70 (.agg #[v]), .string S] x fun e w' => WholeP 196 S R x e w') :
    Calls Tryd.prog 11 #[.iface 70 (.agg #[v])] w fun e w' => BytesP 196 S R w e w' := by
  obtain ⟨p, n, c, rfl, hn⟩ := hv.shape
  obtain ⟨w2, hw2⟩ : ∃ w2, w2 = (w.alloc (.cells #[.pointer none, .slice none 0 0] 95)).alloc (.cells #[.slice p n c] 70) := ⟨_, rfl⟩
  have hl2 : Below w.heap.size w w2 := by rw [hw2]; exact (below_new _ _).alloc (by rw [size_alloc]; omega) _
  have HB2 : Hid (Bld w.heap.size w.heap.size [] w2) := by rw [hw2]; exact (Bld.new w).on (below_new _ _)
  have HL2 := Lib.hid hl2
  have HG := Lib.hid (show w2.heap[w.heap.size + 1]? = some (.cells #[.slice p n c] 70 (0, 0)) from by
    have h := heap_alloc_new (w.alloc (.cells #[.pointer none, .slice none 0 0] 95)) (.cells #[.slice p n c] 70)
    rw [size_alloc] at h
    rw [hw2]
    exact h)
  have HN : Hid (Calls Tryd.prog 28 #[.pointer (some ⟨w.heap.size, 0, none⟩), .agg #[.slice p n c]] w2 fun e w' => e = .returned (.tuple #[]) ∧ Bld w.heap.size w.heap.size (whuffs l) w' ∧ Below w.heap.size w2 w') := huffs_w w.heap.size w.heap.size [] (.slice p n c) l hl (by have := hla l.length (Nat.le_refl _); rw [List.take_length] at this; simpa using this) (fun k hk => by have := hla k hk; simpa using this) hcc w rfl hv w2 hl2 HB2.out
  have HT : Hid (∀ x, Bld w.heap.size w.heap.size (whuffs l) x → Calls Tryd.prog 33 #[.pointer (some ⟨w.heap.size, 0, none⟩)] x fun e w' => e = .returned (.string S) ∧ Below w.heap.size x w') := fun x hx => by rw [hS]; exact String_any _ _ _ x hx (by have := hx.lt; omega)
  have HWH : Hid (∀ x, Below w.heap.size w x → Calls Tryd.prog 32 #[.iface 70 (.agg #[.slice p n c]), .string S] x fun e w' => ∃ T E, e = .returned (.tuple #[.string T, .int .i64 E]) ∧ WholeQ 196 S R T E ∧ Below x.heap.size x w') := fun x hx => (hW x (hT.on hx) (hv.on cellsH_size hx)).mono fun e w' h => h.out
  have a0 := fun w => no58 (t := 70) (by decide) (.agg #[.slice p n c]) w
  have a1 := fun w => no98 (t := 70) (by decide) (.agg #[.slice p n c]) w
  have a2 := fun w => no62 (t := 70) (by decide) (.agg #[.slice p n c]) w
  have a9 := fun w => yes70 (.agg #[.slice p n c]) w
  have HW2 := Lib.hid hw2
  clear hT hv hW hS hw2 hl2 hn hl hla hcc
  go_enter Tryd.func11, Tryd.ntmps11
  go_upto_region 16 with fail
  rw [← HW2.out]
  have x0 : w2.cell? ⟨w.heap.size + 1, 0, none⟩ = some (.slice p n c) := Lib.cell_of_heap HG.out 0
  clear a0 a1 a2 a9 HW2
  go_wp2_with (first
    | (go_at_call 28; refine HN.out.mono ?_; rintro e w3 ⟨rfl, hr, hb3⟩; have H3 := Lib.hid hr; have HL3 := Lib.hid (HL2.out.trans hb3); clear hr hb3)
    | (go_at_call 33; refine (HT.out w3 H3.out).mono ?_; rintro e w4 ⟨rfl, hb4⟩; have HL4 := Lib.hid (HL3.out.trans hb4); clear hb4)
    | (go_at_call 32; refine (HWH.out w4 HL4.out).mono ?_; rintro e w5 ⟨T, E, rfl, hq, hb5⟩; have HQ := Lib.hid hq; have HL5 := Lib.hid (HL4.out.trans (hb5.mono HL4.out.size)); clear hb5 hq))
  go_ret2
  exact ⟨_, _, rfl, HQ.out, HL5.out⟩
set_option maxHeartbeats 2000000 in
set_option maxRecDepth 100000 in
theorem Bytes_frame (z h u : Int) (v : Value) (l : List PT) (hl : l.length ≤ 1000000) (w : World) (hT : Tab w) (hv : RowV 4 cellsP v l w) (R : Prop) (S : ByteArray) (hS : S = ⟨(wframe h u l).toArray⟩)
    (hW : ∀ x, Tab x → RowV 4 cellsP v l x → Calls Tryd.prog 32 #[.iface 44 (.agg #[.int .i64 z, .int .i64 h, .int .i64 u, v]), .string S] x fun e w' => WholeP z S R x e w') :
    Calls Tryd.prog 11 #[.iface 44 (.agg #[.int .i64 z, .int .i64 h, .int .i64 u, v])] w fun e w' => BytesP z S R w e w' := by
  obtain ⟨p, n, c, rfl, hn⟩ := hv.shape
  obtain ⟨w2, hw2⟩ : ∃ w2, w2 = (w.alloc (.cells #[.pointer none, .slice none 0 0] 95)).alloc (.cells #[.int .i64 z, .int .i64 h, .int .i64 u, .slice p n c] 44) := ⟨_, rfl⟩
  have hl2 : Below w.heap.size w w2 := by rw [hw2]; exact (below_new _ _).alloc (by rw [size_alloc]; omega) _
  have HB2 : Hid (Bld w.heap.size w.heap.size [] w2) := by rw [hw2]; exact (Bld.new w).on (below_new _ _)
  have HL2 := Lib.hid hl2
  have HG := Lib.hid (show w2.heap[w.heap.size + 1]? = some (.cells #[.int .i64 z, .int .i64 h, .int .i64 u, .slice p n c] 44 (0, 0)) from by
    have h := heap_alloc_new (w.alloc (.cells #[.pointer none, .slice none 0 0] 95)) (.cells #[.int .i64 z, .int .i64 h, .int .i64 u, .slice p n c] 44)
    rw [size_alloc] at h
    rw [hw2]
    exact h)
  have HN : Hid (Calls Tryd.prog 29 #[.pointer (some ⟨w.heap.size, 0, none⟩), .agg #[.int .i64 z, .int .i64 h, .int .i64 u, .slice p n c]] w2 fun e w' => e = .returned (.tuple #[]) ∧ Bld w.heap.size w.heap.size (wframe h u l) w' ∧ Below w.heap.size w2 w') := frame_w w.heap.size w.heap.size [] z h u (.slice p n c) l hl (by simp) w rfl hv w2 hl2 HB2.out
  have HT : Hid (∀ x, Bld w.heap.size w.heap.size (wframe h u l) x → Calls Tryd.prog 33 #[.pointer (some ⟨w.heap.size, 0, none⟩)] x fun e w' => e = .returned (.string S) ∧ Below w.heap.size x w') := fun x hx => by rw [hS]; exact String_any _ _ _ x hx (by have := hx.lt; omega)
  have HWH : Hid (∀ x, Below w.heap.size w x → Calls Tryd.prog 32 #[.iface 44 (.agg #[.int .i64 z, .int .i64 h, .int .i64 u, .slice p n c]), .string S] x fun e w' => ∃ T E, e = .returned (.tuple #[.string T, .int .i64 E]) ∧ WholeQ z S R T E ∧ Below x.heap.size x w') := fun x hx => (hW x (hT.on hx) (hv.on cellsP_size hx)).mono fun e w' h => h.out
  have a0 := fun w => no58 (t := 44) (by decide) (.agg #[.int .i64 z, .int .i64 h, .int .i64 u, .slice p n c]) w
  have a1 := fun w => no98 (t := 44) (by decide) (.agg #[.int .i64 z, .int .i64 h, .int .i64 u, .slice p n c]) w
  have a2 := fun w => no62 (t := 44) (by decide) (.agg #[.int .i64 z, .int .i64 h, .int .i64 u, .slice p n c]) w
  have a3 := fun w => no70 (t := 44) (by decide) (.agg #[.int .i64 z, .int .i64 h, .int .i64 u, .slice p n c]) w
  have a9 := fun w => yes44 (.agg #[.int .i64 z, .int .i64 h, .int .i64 u, .slice p n c]) w
  have HW2 := Lib.hid hw2
  clear hT hv hW hS hw2 hl2 hn hl
  go_enter Tryd.func11, Tryd.ntmps11
  go_upto_region 19 with fail
  rw [← HW2.out]
  have x0 : w2.cell? ⟨w.heap.size + 1, 0, none⟩ = some (.int .i64 z) := Lib.cell_of_heap HG.out 0
  have x1 : w2.cell? ⟨w.heap.size + 1, 1, none⟩ = some (.int .i64 h) := Lib.cell_of_heap HG.out 1
  have x2 : w2.cell? ⟨w.heap.size + 1, 2, none⟩ = some (.int .i64 u) := Lib.cell_of_heap HG.out 2
  have x3 : w2.cell? ⟨w.heap.size + 1, 3, none⟩ = some (.slice p n c) := Lib.cell_of_heap HG.out 3
  clear a0 a1 a2 a3 a9 HW2
  go_wp2_with (first
    | (go_at_call 29; refine HN.out.mono ?_; rintro e w3 ⟨rfl, hr, hb3⟩; have H3 := Lib.hid hr; have HL3 := Lib.hid (HL2.out.trans hb3); clear hr hb3)
    | (go_at_call 33; refine (HT.out w3 H3.out).mono ?_; rintro e w4 ⟨rfl, hb4⟩; have HL4 := Lib.hid (HL3.out.trans hb4); clear hb4)
    | (go_at_call 32; refine (HWH.out w4 HL4.out).mono ?_; rintro e w5 ⟨T, E, rfl, hq, hb5⟩; have HQ := Lib.hid hq; have HL5 := Lib.hid (HL4.out.trans (hb5.mono HL4.out.size)); clear hb5 hq))
  go_ret2
  exact ⟨_, _, rfl, HQ.out, HL5.out⟩
set_option maxHeartbeats 2000000 in
set_option maxRecDepth 100000 in
theorem Bytes_scan (f t h u : Int) (v : Value) (l : List KT) (hl : l.length ≤ 1000000) (w : World) (hT : Tab w) (hv : RowV 3 cellsK v l w) (R : Prop) (S : ByteArray) (hS : S = ⟨(wscan l f t h u).toArray⟩)
    (hW : ∀ x, Tab x → RowV 3 cellsK v l x → Calls Tryd.prog 32 #[.iface 49 (.agg #[v, .int .i64 f, .int .i64 t, .int .i64 h, .int .i64 u]), .string S] x fun e w' => WholeP 218 S R x e w') :
    Calls Tryd.prog 11 #[.iface 49 (.agg #[v, .int .i64 f, .int .i64 t, .int .i64 h, .int .i64 u])] w fun e w' => BytesP 218 S R w e w' := by
  obtain ⟨p, n, c, rfl, hn⟩ := hv.shape
  obtain ⟨w2, hw2⟩ : ∃ w2, w2 = (w.alloc (.cells #[.pointer none, .slice none 0 0] 95)).alloc (.cells #[.slice p n c, .int .i64 f, .int .i64 t, .int .i64 h, .int .i64 u] 49) := ⟨_, rfl⟩
  have hl2 : Below w.heap.size w w2 := by rw [hw2]; exact (below_new _ _).alloc (by rw [size_alloc]; omega) _
  have HB2 : Hid (Bld w.heap.size w.heap.size [] w2) := by rw [hw2]; exact (Bld.new w).on (below_new _ _)
  have HL2 := Lib.hid hl2
  have HG := Lib.hid (show w2.heap[w.heap.size + 1]? = some (.cells #[.slice p n c, .int .i64 f, .int .i64 t, .int .i64 h, .int .i64 u] 49 (0, 0)) from by
    have h := heap_alloc_new (w.alloc (.cells #[.pointer none, .slice none 0 0] 95)) (.cells #[.slice p n c, .int .i64 f, .int .i64 t, .int .i64 h, .int .i64 u] 49)
    rw [size_alloc] at h
    rw [hw2]
    exact h)
  have HN : Hid (Calls Tryd.prog 30 #[.pointer (some ⟨w.heap.size, 0, none⟩), .agg #[.slice p n c, .int .i64 f, .int .i64 t, .int .i64 h, .int .i64 u]] w2 fun e w' => e = .returned (.tuple #[]) ∧ Bld w.heap.size w.heap.size (wscan l f t h u) w' ∧ Below w.heap.size w2 w') := scan_w w.heap.size w.heap.size [] f t h u (.slice p n c) l hl (by simp) w rfl hv w2 hl2 HB2.out
  have HT : Hid (∀ x, Bld w.heap.size w.heap.size (wscan l f t h u) x → Calls Tryd.prog 33 #[.pointer (some ⟨w.heap.size, 0, none⟩)] x fun e w' => e = .returned (.string S) ∧ Below w.heap.size x w') := fun x hx => by rw [hS]; exact String_any _ _ _ x hx (by have := hx.lt; omega)
  have HWH : Hid (∀ x, Below w.heap.size w x → Calls Tryd.prog 32 #[.iface 49 (.agg #[.slice p n c, .int .i64 f, .int .i64 t, .int .i64 h, .int .i64 u]), .string S] x fun e w' => ∃ T E, e = .returned (.tuple #[.string T, .int .i64 E]) ∧ WholeQ 218 S R T E ∧ Below x.heap.size x w') := fun x hx => (hW x (hT.on hx) (hv.on cellsK_size hx)).mono fun e w' h => h.out
  have a0 := fun w => no58 (t := 49) (by decide) (.agg #[.slice p n c, .int .i64 f, .int .i64 t, .int .i64 h, .int .i64 u]) w
  have a1 := fun w => no98 (t := 49) (by decide) (.agg #[.slice p n c, .int .i64 f, .int .i64 t, .int .i64 h, .int .i64 u]) w
  have a2 := fun w => no62 (t := 49) (by decide) (.agg #[.slice p n c, .int .i64 f, .int .i64 t, .int .i64 h, .int .i64 u]) w
  have a3 := fun w => no70 (t := 49) (by decide) (.agg #[.slice p n c, .int .i64 f, .int .i64 t, .int .i64 h, .int .i64 u]) w
  have a4 := fun w => no44 (t := 49) (by decide) (.agg #[.slice p n c, .int .i64 f, .int .i64 t, .int .i64 h, .int .i64 u]) w
  have a9 := fun w => yes49 (.agg #[.slice p n c, .int .i64 f, .int .i64 t, .int .i64 h, .int .i64 u]) w
  have HW2 := Lib.hid hw2
  clear hT hv hW hS hw2 hl2 hn hl
  go_enter Tryd.func11, Tryd.ntmps11
  go_upto_region 22 with fail
  rw [← HW2.out]
  have x0 : w2.cell? ⟨w.heap.size + 1, 0, none⟩ = some (.slice p n c) := Lib.cell_of_heap HG.out 0
  have x1 : w2.cell? ⟨w.heap.size + 1, 1, none⟩ = some (.int .i64 f) := Lib.cell_of_heap HG.out 1
  have x2 : w2.cell? ⟨w.heap.size + 1, 2, none⟩ = some (.int .i64 t) := Lib.cell_of_heap HG.out 2
  have x3 : w2.cell? ⟨w.heap.size + 1, 3, none⟩ = some (.int .i64 h) := Lib.cell_of_heap HG.out 3
  have x4 : w2.cell? ⟨w.heap.size + 1, 4, none⟩ = some (.int .i64 u) := Lib.cell_of_heap HG.out 4
  clear a0 a1 a2 a3 a4 a9 HW2
  go_wp2_with (first
    | (go_at_call 30; refine HN.out.mono ?_; rintro e w3 ⟨rfl, hr, hb3⟩; have H3 := Lib.hid hr; have HL3 := Lib.hid (HL2.out.trans hb3); clear hr hb3)
    | (go_at_call 33; refine (HT.out w3 H3.out).mono ?_; rintro e w4 ⟨rfl, hb4⟩; have HL4 := Lib.hid (HL3.out.trans hb4); clear hb4)
    | (go_at_call 32; refine (HWH.out w4 HL4.out).mono ?_; rintro e w5 ⟨T, E, rfl, hq, hb5⟩; have HQ := Lib.hid hq; have HL5 := Lib.hid (HL4.out.trans (hb5.mono HL4.out.size)); clear hb5 hq))
  go_ret2
  exact ⟨_, _, rfl, HQ.out, HL5.out⟩
/-! The bytes of segments of any bytes, and of how many units stand between two restarts. -/
set_option maxHeartbeats 2000000 in
set_option maxRecDepth 100000 in
theorem Bytes_restI (n : Int) (w : World) (hT : Tab w) (R : Prop) (S : ByteArray) (hS : S = ⟨(pbytes n 2).toArray⟩)
    (hW : ∀ x, Tab x → Calls Tryd.prog 32 #[.iface 76 (.agg #[.int .i64 n]), .string S] x fun e w' => WholeP 221 S R x e w') :
    Calls Tryd.prog 11 #[.iface 76 (.agg #[.int .i64 n])] w fun e w' => BytesP 221 S R w e w' := by
  have a0 := fun w => no58 (t := 76) (by decide) (.agg #[.int .i64 n]) w
  have a1 := fun w => no98 (t := 76) (by decide) (.agg #[.int .i64 n]) w
  have a2 := fun w => no62 (t := 76) (by decide) (.agg #[.int .i64 n]) w
  have a3 := fun w => no70 (t := 76) (by decide) (.agg #[.int .i64 n]) w
  have a4 := fun w => no44 (t := 76) (by decide) (.agg #[.int .i64 n]) w
  have a5 := fun w => no49 (t := 76) (by decide) (.agg #[.int .i64 n]) w
  have a6 := fun w => yes76 (.agg #[.int .i64 n]) w
  obtain ⟨w2, hw2⟩ : ∃ w2, w2 = (w.alloc (.cells #[.pointer none, .slice none 0 0] 95)).alloc (.cells #[.int .i64 n] 76) := ⟨_, rfl⟩
  have HB2 : Hid (Bld w.heap.size w.heap.size [] w2) := by rw [hw2]; exact (Bld.new w).on (below_new _ _)
  have HL2 : Hid (Below w.heap.size w w2) := by rw [hw2]; exact (below_new _ _).alloc (by rw [size_alloc]; omega) _
  have HN : Hid (Calls Tryd.prog 31 #[.pointer (some ⟨w.heap.size, 0, none⟩), .int .i64 n, .int .i64 2] w2 fun e w' => e = .returned (.tuple #[]) ∧ Bld w.heap.size w.heap.size (pbytes n 2) w' ∧ Below w.heap.size w2 w') := wnum_any _ _ [] n 2 w2 HB2.out (by simp)
  have HT : Hid (∀ x, Bld w.heap.size w.heap.size (pbytes n 2) x → Calls Tryd.prog 33 #[.pointer (some ⟨w.heap.size, 0, none⟩)] x fun e w' => e = .returned (.string S) ∧ Below w.heap.size x w') := fun x hx => by rw [hS]; exact String_any _ _ _ x hx (by have := hx.lt; omega)
  have HWH : Hid (∀ x, Below w.heap.size w x → Calls Tryd.prog 32 #[.iface 76 (.agg #[.int .i64 n]), .string S] x fun e w' => ∃ T E, e = .returned (.tuple #[.string T, .int .i64 E]) ∧ WholeQ 221 S R T E ∧ Below x.heap.size x w') := fun x hx => (hW x (hT.on hx)).mono fun e w' h => h.out
  have x0 : w2.cell? ⟨w.heap.size + 1, 0, none⟩ = some (.int .i64 n) := by
    have h := cell_one (w.alloc (.cells #[.pointer none, .slice none 0 0] 95)) (.int .i64 n) 76
    rw [← hw2, size_alloc] at h
    exact h
  have HX0 := Lib.hid x0
  have HW2 := Lib.hid hw2
  clear hT hW hS x0 hw2
  go_enter Tryd.func11, Tryd.ntmps11
  go_upto_region 25 with fail
  rw [← HW2.out]
  have x0 := HX0.out
  clear a0 a1 a2 a3 a4 a5 a6 HW2
  go_wp2_with (first
    | (go_at_call 31; refine HN.out.mono ?_; rintro e w3 ⟨rfl, hr, hb3⟩; have H3 := Lib.hid hr; have HL3 := Lib.hid (HL2.out.trans hb3); clear hr hb3)
    | (go_at_call 33; refine (HT.out w3 H3.out).mono ?_; rintro e w4 ⟨rfl, hb4⟩; have HL4 := Lib.hid (HL3.out.trans hb4); clear hb4)
    | (go_at_call 32; refine (HWH.out w4 HL4.out).mono ?_; rintro e w5 ⟨T, E, rfl, hq, hb5⟩; have HQ := Lib.hid hq; have HL5 := Lib.hid (HL4.out.trans (hb5.mono HL4.out.size)); clear hb5 hq))
  go_ret2
  exact ⟨_, _, rfl, HQ.out, HL5.out⟩
set_option maxHeartbeats 2000000 in
set_option maxRecDepth 100000 in
theorem Bytes_plain (z : Int) (s : ByteArray) (hs : s.size ≤ 1000000000) (w : World) (hT : Tab w) (R : Prop)
    (hW : ∀ x, Tab x → Calls Tryd.prog 32 #[.iface 98 (.agg #[.int .i64 z, .string s]), .string s] x fun e w' => WholeP z s R x e w') :
    Calls Tryd.prog 11 #[.iface 98 (.agg #[.int .i64 z, .string s])] w fun e w' => BytesP z s R w e w' := by
  have a0 := fun w => no58 (t := 98) (by decide) (.agg #[.int .i64 z, .string s]) w
  have a6 := fun w => yes98 (.agg #[.int .i64 z, .string s]) w
  obtain ⟨w2, hw2⟩ : ∃ w2, w2 = (w.alloc (.cells #[.pointer none, .slice none 0 0] 95)).alloc (.cells #[.int .i64 z, .string s] 98) := ⟨_, rfl⟩
  have hb2 : Bld w.heap.size w.heap.size [] w2 := by rw [hw2]; exact (Bld.new w).on (below_new _ _)
  have HL2 : Hid (Below w.heap.size w w2.drew) := by rw [hw2]; exact Below.drew ((below_new _ _).alloc (by rw [size_alloc]; omega) _)
  have x1 : w2.cell? ⟨w.heap.size + 1, 1, none⟩ = some (.string s) := by
    have h := heap_alloc_new (w.alloc (.cells #[.pointer none, .slice none 0 0] 95)) (.cells #[.int .i64 z, .string s] 98)
    rw [size_alloc, ← hw2] at h
    exact Lib.cell_of_heap h 1
  have HN : Hid (Calls Tryd.prog 26 #[.pointer (some ⟨w.heap.size, 0, none⟩), .string s] w2.drew fun e w' => e = .returned (.tuple #[.int .i64 s.size, .nilIface]) ∧ Bld w.heap.size w.heap.size s.data.toList w' ∧ Below w.heap.size w2.drew w') :=
    WriteString_any _ _ [] s w2.drew (hb2.on (Below.drew (Below.refl _ _))) (by simp; omega) (by have := hb2.lt; show w.heap.size ≤ w2.heap.size; omega)
  have HT : Hid (∀ x, Bld w.heap.size w.heap.size s.data.toList x → Calls Tryd.prog 33 #[.pointer (some ⟨w.heap.size, 0, none⟩)] x fun e w' => e = .returned (.string s) ∧ Below w.heap.size x w') := fun x hx => String_any _ _ _ x hx (by have := hx.lt; omega)
  have HWH : Hid (∀ x, Below w.heap.size w x → Calls Tryd.prog 32 #[.iface 98 (.agg #[.int .i64 z, .string s]), .string s] x fun e w' => ∃ T E, e = .returned (.tuple #[.string T, .int .i64 E]) ∧ WholeQ z s R T E ∧ Below x.heap.size x w') := fun x hx => (hW x (hT.on hx)).mono fun e w' h => h.out
  have HW2 := Lib.hid hw2
  have HX1 := Lib.hid x1
  clear hT hW hs x1 hw2 hb2
  go_enter Tryd.func11, Tryd.ntmps11
  go_upto_region 10 with fail
  rw [← HW2.out]
  have x1 := HX1.out
  clear a0 a6 HW2
  go_region_with (go_at_call 26; refine HN.out.mono ?_; rintro e w3 ⟨rfl, hr, hb3⟩)
  all_goals
    have H3 := Lib.hid hr
    have HL3 := Lib.hid (HL2.out.trans hb3)
    clear hr hb3
    go_wp2_with (first
      | (go_at_call 33; refine (HT.out w3 H3.out).mono ?_; rintro e w4 ⟨rfl, hb4⟩; have HL4 := Lib.hid (HL3.out.trans hb4); clear hb4)
      | (go_at_call 32; refine (HWH.out w4 HL4.out).mono ?_; rintro e w5 ⟨T, E, rfl, hq, hb5⟩; have HQ := Lib.hid hq; have HL5 := Lib.hid (HL4.out.trans (hb5.mono HL4.out.size)); clear hb5 hq))
    go_ret2
    exact ⟨_, _, rfl, HQ.out, HL5.out⟩
end Go.Proofs.YtfohgocdabgbgaaDoor
