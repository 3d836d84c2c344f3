/- A frame's component: read. -/
import Derived.Test.YtfohgocdabgbgaaDoorSPlain
namespace Go.Proofs.YtfohgocdabgbgaaDoor
open Go.RowKit

/-- A component, told as four numbers, and the state behind it. -/
def rpart (s : ByteArray) (p : Nat × Nat) : (Nat × Nat × Nat × Nat) × (Nat × Nat) :=
  let a := rnum s 1 p
  let b := rpair s a.2
  let d := rnum s 1 (rneed ((decide (1 ≤ b.1.1) && decide (b.1.1 ≤ 4)) && (decide (1 ≤ b.1.2) && decide (b.1.2 ≤ 4))) 7 b.2)
  ((a.1, b.1.1, b.1.2, d.1), rneed (decide (d.1 ≤ 3)) 7 d.2)

theorem dec14 (b : Nat) : (decide (1 ≤ b) && decide (b ≤ 4)) = decide ((1 : Int) ≤ b ∧ (b : Int) ≤ 4) := by
  rw [Bool.eq_iff_iff]
  simp only [Bool.and_eq_true, decide_eq_true_eq]
  omega
def partV (x : Nat × Nat × Nat × Nat) : Value := .agg #[.int .i64 x.1, .int .i64 x.2.1, .int .i64 x.2.2.1, .int .i64 x.2.2.2]
theorem Two.of {k c : Nat} {a b : World} (h : Below a.heap.size a b) : Two k c a b := ⟨h.os, h.tape, h.output, h.size, fun j _ _ hl => h.block j hl⟩
theorem Two.cell {k c g i : Nat} {a b : World} (h : Two k c a b) (hg : a.heap.size ≤ g) (v : Value) : Two k c a (b.setCell ⟨g, i, none⟩ v) :=
  ⟨h.os, h.tape, h.output, by simpa [World.setCell] using h.size, fun j h1 h2 hl => (heap_setCell_other _ _ _ _ (by show j ≠ g; omega)).trans (h.block j h1 h2 hl)⟩
theorem size80 : (Tryd.prog.info? 80).map (·.size) = some 4 := by kernel_rfl
theorem four (w : World) (g : Nat) (x0 x1 x2 x3 v0 v1 v2 v3 : Value) (T : TypeId) (fr : Nat × Nat) (h : w.heap[g]? = some (.cells #[x0, x1, x2, x3] T fr)) :
    ((((w.setCell ⟨g, 0, none⟩ v0).setCell ⟨g, 1, none⟩ v1).setCell ⟨g, 2, none⟩ v2).setCell ⟨g, 3, none⟩ v3).heap[g]? = some (.cells #[v0, v1, v2, v3] T fr) := by
  simp [World.setCell, Array.getElem?_modify, h]
theorem four_oth (w : World) (g j : Nat) (v0 v1 v2 v3 : Value) (h : j ≠ g) :
    ((((w.setCell ⟨g, 0, none⟩ v0).setCell ⟨g, 1, none⟩ v1).setCell ⟨g, 2, none⟩ v2).setCell ⟨g, 3, none⟩ v3).heap[j]? = w.heap[j]? := by
  rw [heap_setCell_other _ _ _ _ h, heap_setCell_other _ _ _ _ h, heap_setCell_other _ _ _ _ h, heap_setCell_other _ _ _ _ h]
theorem Rdd.keep {B k c : Nat} {s : ByteArray} {p : Nat × Nat} {w w' : World} (h : Rdd B k c s p w) (hk : w'.heap[k]? = w.heap[k]?) (hc : w'.heap[c]? = w.heap[c]?) : Rdd B k c s p w' :=
  ⟨hk.trans h.box, hc.trans h.cur, h.bk, h.bc, h.le⟩
set_option maxHeartbeats 2000000 in
theorem part_two (B k c : Nat) (s : ByteArray) (hs : s.size ≤ maxLen) (p : Nat × Nat) (w : World) (h : Rdd B k c s p w) :
    Calls Tryd.prog 66 #[.pointer (some ⟨k, 0, none⟩)] w fun e w' => e = .returned (partV (rpart s p).1) ∧ Rdd B k c s (rpart s p).2 w' ∧ Two k c w w' := by
  unfold partV rpart
  simp only []
  have HA := Lib.hid fun x hx => num_two B k c s hs p 1 (by omega) (by omega) x hx
  have hw0 : (w.alloc (.cells #[.int .i64 0, .int .i64 0, .int .i64 0, .int .i64 0] 80)).heap[w.heap.size]? = some (.cells #[.int .i64 0, .int .i64 0, .int .i64 0, .int .i64 0] 80 (0, 0)) := heap_alloc_new _ _
  have hsz := size_alloc w (.cells #[.int .i64 0, .int .i64 0, .int .i64 0, .int .i64 0] 80)
  have HL := Lib.hid hsz
  have H0 := Lib.hid (h.on (below_new w (.cells #[.int .i64 0, .int .i64 0, .int .i64 0, .int .i64 0] 80)))
  have HK : Hid (w.heap.size ≠ k ∧ w.heap.size ≠ c ∧ B ≤ w.heap.size) := ⟨fun e => by have := h.lt; omega, fun e => by have := h.cur.lt; omega, by have := h.lt; have := h.bk; omega⟩
  have HW := Lib.hid hw0
  have HZ := Lib.hid (below_new w (.cells #[.int .i64 0, .int .i64 0, .int .i64 0, .int .i64 0] 80))
  clear hw0 hsz
  have HB := Lib.hid fun x hx => pair_two B k c s hs (rnum s 1 p).2 x hx
  generalize (rnum s 1 p).1 = a at *
  generalize (rnum s 1 p).2 = q1 at *
  generalize (rpair s q1).1.1 = b1 at *
  generalize (rpair s q1).1.2 = b2 at *
  generalize (rpair s q1).2 = q2 at *
  obtain ⟨r1, hr1⟩ : ∃ r1, r1 = (decide (1 ≤ b1) && decide (b1 ≤ 4)) := ⟨_, rfl⟩
  obtain ⟨r2, hr2⟩ : ∃ r2, r2 = (decide (1 ≤ b2) && decide (b2 ≤ 4)) := ⟨_, rfl⟩
  rw [← hr1, ← hr2]
  have HR1 := Lib.hid (within_any b1 1 4 r1 (hr1.trans (dec14 b1)))
  have HR2 := Lib.hid (within_any b2 1 4 r2 (hr2.trans (dec14 b2)))
  clear hr1 hr2
  have HN := Lib.hid fun x hx => need_any B k c s q2 (r1 && r2) 7 x hx
  generalize rneed (r1 && r2) 7 q2 = q3 at *
  have HC := Lib.hid fun x hx => num_two B k c s hs q3 1 (by omega) (by omega) x hx
  generalize (rnum s 1 q3).1 = d at *
  generalize (rnum s 1 q3).2 = q4 at *
  obtain ⟨r3, hr3⟩ : ∃ r3, r3 = decide (d ≤ 3) := ⟨_, rfl⟩
  have e3 : decide ((d : Int) ≤ 3) = r3 := by rw [hr3]; simp; omega
  rw [← hr3]
  clear hr3
  have HM := Lib.hid fun x hx => need_any B k c s q4 r3 7 x hx
  clear h
  cases r1
  all_goals
    go_enter Tryd.func66, Tryd.ntmps66
    go_wp2_with (first
      | (go_at_call 46; refine (HA.out _ H0.out).mono ?_; rintro e w1 ⟨rfl, hr, hb⟩; have H1 := Lib.hid hr; have HB1 := Lib.hid hb; clear hr hb HA)
      | (go_at_call 63; refine (HB.out _ H1.out).mono ?_; rintro e w2 ⟨rfl, hr, hb⟩; have H2 := Lib.hid hr; have HB2 := Lib.hid (HB1.out.trans hb); clear hr hb HB)
      | (go_at_call 41; refine (HR1.out _).mono ?_; rintro e w' ⟨rfl, rfl⟩; clear HR1)
      | (go_at_call 41; refine (HR2.out _).mono ?_; rintro e w' ⟨rfl, rfl⟩; clear HR2)
      | (go_at_call 23; refine (HN.out _ H2.out).mono ?_; rintro e w3 ⟨rfl, hr, _, hb⟩; have H3 := Lib.hid hr; have HB3 := Lib.hid (HB2.out.trans (Two.left hb)); clear hr hb HN)
      | (go_at_call 46; refine (HC.out _ H3.out).mono ?_; rintro e w4 ⟨rfl, hr, hb⟩; have H4 := Lib.hid hr; have HB4 := Lib.hid (HB3.out.trans hb); clear hr hb HC)
      | (go_at_call 23; refine (HM.out _ H4.out).mono ?_; rintro e w5 ⟨rfl, hr, _, hb⟩; have H5 := Lib.hid hr; have HB5 := Lib.hid (HB4.out.trans (Two.left hb)); have hblk := (HB5.out.block _ HK.out.1 HK.out.2.1 (by rw [HL.out]; exact Nat.lt_succ_self _)).trans HW.out; have HH := Lib.hid hblk; have y0 : w5.cell? ⟨w.heap.size, 0, none⟩ = some (.int .i64 0) := Lib.cell_of_heap hblk 0; have y1 : w5.cell? ⟨w.heap.size, 1, none⟩ = some (.int .i64 0) := Lib.cell_of_heap hblk 1; have y2 : w5.cell? ⟨w.heap.size, 2, none⟩ = some (.int .i64 0) := Lib.cell_of_heap hblk 2; have y3 : w5.cell? ⟨w.heap.size, 3, none⟩ = some (.int .i64 0) := Lib.cell_of_heap hblk 3; have z0 := Lib.frozen_of_heap hblk 0; have z1 := Lib.frozen_of_heap hblk 1; have z2 := Lib.frozen_of_heap hblk 2; have z3 := Lib.frozen_of_heap hblk 3; clear hblk; clear hr hb HM))
    have hF := four w5 w.heap.size (.int .i64 0) (.int .i64 0) (.int .i64 0) (.int .i64 0) (.int .i64 a) (.int .i64 b1) (.int .i64 b2) (.int .i64 d) 80 (0, 0) HH.out
    refine bodyPost_ret_by (results_cell_row rfl _ _ w.heap.size 80 _ (0, 0) _ rfl hF Tryd.underlying80 rfl size80) rfl ⟨rfl, H5.out.keep (four_oth _ _ _ _ _ _ _ (Ne.symm HK.out.1)) (four_oth _ _ _ _ _ _ _ (Ne.symm HK.out.2.1)), ?_⟩
    exact Two.cell (Two.cell (Two.cell (Two.cell ((Two.of HZ.out).trans HB5.out) (Nat.le_refl _) _) (Nat.le_refl _) _) (Nat.le_refl _) _) (Nat.le_refl _) _
end Go.Proofs.YtfohgocdabgbgaaDoor
