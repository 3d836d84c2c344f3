/- The reader of a body: its small methods, and what they do told plainly. -/
import Derived.Test.YtfohgocdabgbgaaDoorSBld
import Derived.Test.YtfohgocdabgbgaaDoorCWalk2
namespace Go.Proofs.YtfohgocdabgbgaaDoor
open Go.RowKit

/-- What must hold, else it is an error: the first one stays. The state: a place, and an error. -/
def rneed (ok : Bool) (x : Nat) (p : Nat × Nat) : Nat × Nat := if p.2 = 0 ∧ ok = false then (p.1, x) else p
/-- A number is read. -/
def rnum (s : ByteArray) (m : Nat) (p : Nat × Nat) : Nat × (Nat × Nat) :=
  if p.2 = 0 then (if s.size - p.1 < m then (0, (p.1, 4)) else (num (s.extract p.1 (p.1 + m)).data.toList 0, (p.1 + m, 0))) else (0, p)
/-- Bytes are read. -/
def rtake (s : ByteArray) (m : Nat) (p : Nat × Nat) : ByteArray × (Nat × Nat) :=
  if p.2 = 0 then (if s.size - p.1 < m then (⟨#[]⟩, (p.1, 4)) else (s.extract p.1 (p.1 + m), (p.1 + m, 0))) else (⟨#[]⟩, p)

/-- A reader lies in block k, its cursor in block c. -/
structure Rdd (B k c : Nat) (s : ByteArray) (p : Nat × Nat) (w : World) : Prop where
  box : w.heap[k]? = some (.cells #[.pointer (some ⟨c, 0, none⟩), .int .i64 (p.2 : Nat)] 87 (0, 0))
  cur : Cur c s p.1 w
  bk : B ≤ k
  bc : B ≤ c
  le : p.1 ≤ s.size
section
variable {B k c : Nat} {s : ByteArray} {p : Nat × Nat} {w w' : World}
theorem Rdd.ne (h : Rdd B k c s p w) : k ≠ c := by
  intro e
  have h1 := h.cur
  unfold Cur at h1
  rw [← e, h.box] at h1
  simp at h1
theorem Rdd.cc (h : Rdd B k c s p w) : w.cell? ⟨k, 0, none⟩ = some (.pointer (some ⟨c, 0, none⟩)) := by rw [Lib.cell_of_heap h.box]; rfl
theorem Rdd.ce (h : Rdd B k c s p w) : w.cell? ⟨k, 1, none⟩ = some (.int .i64 (p.2 : Nat)) := by rw [Lib.cell_of_heap h.box]; rfl
theorem Rdd.free (h : Rdd B k c s p w) (j : Nat) : w.frozen? ⟨k, j, none⟩ = false := Lib.frozen_of_heap h.box j
theorem Rdd.lt (h : Rdd B k c s p w) : k < w.heap.size := (Array.getElem?_eq_some_iff.1 h.box).1
theorem Rdd.on (h : Rdd B k c s p w) (hb : Below w.heap.size w w') : Rdd B k c s p w' :=
  ⟨(hb.block k h.lt).trans h.box, (hb.block c h.cur.lt).trans h.cur, h.bk, h.bc, h.le⟩
theorem Rdd.draw (h : Rdd B k c s p w) (n : Nat) : Rdd B k c s p (w.drewN n) := ⟨h.box, h.cur, h.bk, h.bc, h.le⟩
theorem Rdd.setE (h : Rdd B k c s p w) (x : Nat) {z : Int} (hz : z = x) : Rdd B k c s (p.1, x) (w.setCell ⟨k, 1, none⟩ (.int .i64 z)) := by
  subst hz
  refine ⟨?_, ?_, h.bk, h.bc, h.le⟩
  · simp [World.setCell, Array.getElem?_modify, h.box]
  · unfold Cur
    rw [heap_setCell_other w ⟨k, 1, none⟩ c _ (Ne.symm h.ne)]
    exact h.cur
theorem Rdd.moved (h : Rdd B k c s p w) {a : Nat} (hc : Cur c s a w') (hb : But c w w') (ha : a ≤ s.size) : Rdd B k c s (a, p.2) w' :=
  ⟨(hb.block k h.ne h.lt).trans h.box, hc, h.bk, h.bc, ha⟩
theorem Rdd.low (h : Rdd B k c s p w) (hb : But c w w') : Below B w w' := hb.below h.bc (by have := h.lt; have := h.bk; omega)
end

/-- All blocks but two are kept. -/
structure Two (k c : Nat) (a b : World) : Prop where
  os : b.os = a.os
  tape : b.tape = a.tape
  output : b.output = a.output
  size : a.heap.size ≤ b.heap.size
  block : ∀ j, j ≠ k → j ≠ c → j < a.heap.size → b.heap[j]? = a.heap[j]?
theorem Two.refl (k c : Nat) (a : World) : Two k c a a := ⟨rfl, rfl, rfl, Nat.le_refl _, fun _ _ _ _ => rfl⟩
theorem Two.trans {k c : Nat} {a b d : World} (h : Two k c a b) (g : Two k c b d) : Two k c a d :=
  ⟨g.os.trans h.os, g.tape.trans h.tape, g.output.trans h.output, Nat.le_trans h.size g.size, fun j h1 h2 hl => (g.block j h1 h2 (Nat.lt_of_lt_of_le hl h.size)).trans (h.block j h1 h2 hl)⟩
theorem Two.left {k c : Nat} {a b : World} (h : But k a b) : Two k c a b := ⟨h.os, h.tape, h.output, h.size, fun j h1 _ hl => h.block j h1 hl⟩
theorem Two.right {k c : Nat} {a b : World} (h : But c a b) : Two k c a b := ⟨h.os, h.tape, h.output, h.size, fun j _ h2 hl => h.block j h2 hl⟩
theorem Two.draw {k c : Nat} {a b : World} (h : Two k c a b) (n : Nat) : Two k c a (b.drewN n) := ⟨h.os, h.tape, h.output, h.size, h.block⟩
theorem Two.below {B k c : Nat} {a b : World} (h : Two k c a b) (hk : B ≤ k) (hc : B ≤ c) (hl : k < a.heap.size) : Below B a b :=
  ⟨h.os, h.tape, h.output, h.size, fun j hj => h.block j (by omega) (by omega) (by omega)⟩

set_option maxHeartbeats 1000000 in
theorem need_any (B k c : Nat) (s : ByteArray) (p : Nat × Nat) (ok : Bool) (x : Nat) (w : World) (h : Rdd B k c s p w) :
    Calls Tryd.prog 23 #[.pointer (some ⟨k, 0, none⟩), .bool ok, .int .i64 x] w fun e w' => e = .returned (.tuple #[]) ∧ Rdd B k c s (rneed ok x p) w' ∧ Below B w w' ∧ But k w w' := by
  have H := Lib.hid h
  have x0 := h.ce
  have x1 := h.free 1
  clear h
  by_cases h0 : p.2 = 0
  · have e0 : ((p.2 : Int) == 0) = true := by rw [beq_iff_eq]; omega
    cases ok
    · have HS : Hid (rneed false x p = (p.1, x)) := if_pos ⟨h0, rfl⟩
      clear h0
      generalize hp : (p.2 : Int) = z at *
      go_enter Tryd.func23, Tryd.ntmps23
      go_wp2
      go_end0
      exact ⟨rfl, by rw [HS.out]; exact H.out.setE x rfl, below_cell (Below.refl _ _) H.out.bk _, (But.refl k w).setCell 1 _⟩
    · have HS : Hid (rneed true x p = p) := if_neg fun h => by cases h.2
      clear h0
      generalize hp : (p.2 : Int) = z at *
      go_enter Tryd.func23, Tryd.ntmps23
      go_wp2
      go_end0
      exact ⟨rfl, by rw [HS.out]; exact H.out, Below.refl _ _, But.refl _ _⟩
  · have e0 : ((p.2 : Int) == 0) = false := by rw [beq_eq_false_iff_ne]; omega
    have HS : Hid (rneed ok x p = p) := if_neg fun h => h0 h.1
    clear h0
    generalize hp : (p.2 : Int) = z at *
    go_enter Tryd.func23, Tryd.ntmps23
    go_wp2
    go_end0
    exact ⟨rfl, by rw [HS.out]; exact H.out, Below.refl _ _, But.refl _ _⟩

theorem numbered_rnum (s : ByteArray) (m : Nat) (h1 : 1 ≤ m) (h4 : m ≤ 4) (a : Nat) : numbered s a m = if s.size - a < m then (0, a, 2) else (num (s.extract a (a + m)).data.toList 0, a + m, 0) := by
  unfold numbered taken
  rw [if_neg (by omega), if_neg (by omega : ¬ (m : Int) < 0)]
  by_cases h : s.size - a < m
  · rw [if_pos (by omega), if_pos h]
    rfl
  · rw [if_neg (by omega), if_neg h, Int.toNat_natCast]

set_option maxHeartbeats 1000000 in
theorem num_two (B k c : Nat) (s : ByteArray) (hs : s.size ≤ maxLen) (p : Nat × Nat) (m : Nat) (h1 : 1 ≤ m) (h4 : m ≤ 4) (w : World) (h : Rdd B k c s p w) :
    Calls Tryd.prog 46 #[.pointer (some ⟨k, 0, none⟩), .int .i64 m] w fun e w' => e = .returned (.int .i64 (rnum s m p).1) ∧ Rdd B k c s (rnum s m p).2 w' ∧ Two k c w w' := by
  have H := Lib.hid h
  have x0 := h.ce
  have x1 := h.cc
  by_cases h0 : p.2 = 0
  · have e0 : ((p.2 : Int) != 0) = false := by simp [h0]
    have HN := Lib.hid (Num_any c s p.1 m w h.cur hs h.le)
    rw [numbered_rnum s m h1 h4] at HN
    have HP : Hid (p = (p.1, 0)) := by unfold Hid; rw [← h0]
    by_cases hsh : s.size - p.1 < m
    · rw [if_pos hsh] at HN
      have HR : Hid (rnum s m p = (0, (p.1, 4))) := by unfold Hid rnum; rw [if_pos h0, if_pos hsh]
      have HD : Hid (rneed false 4 (p.1, p.2) = (p.1, 4)) := if_pos ⟨h0, rfl⟩
      clear hsh h0 h
      rw [HR.out]
      generalize hp : (p.2 : Int) = z at *
      go_enter Tryd.func46, Tryd.ntmps46
      go_wp2_with (first
        | (go_at_call 65; refine HN.out.mono ?_; rintro e w1 ⟨rfl, hc, hb⟩; have H1 := Lib.hid (H.out.moved hc hb H.out.le); have HB1 := Lib.hid (Two.right (k := k) hb); clear hc hb HN)
        | (go_at_call 23; refine (need_any B k c s _ false 4 w1 H1.out).mono ?_; rintro e w2 ⟨rfl, hr, _, hb2⟩; have H2 := Lib.hid hr; have HB2 := Lib.hid (HB1.out.trans (Two.left hb2)); clear hr hb2))
      go_ret
      exact ⟨rfl, by rw [← HD.out]; exact H2.out, HB2.out⟩
    · rw [if_neg hsh] at HN
      have HR : Hid (rnum s m p = (num (s.extract p.1 (p.1 + m)).data.toList 0, (p.1 + m, 0))) := by unfold Hid rnum; rw [if_pos h0, if_neg hsh]
      have HD : Hid (rneed true 4 (p.1 + m, p.2) = (p.1 + m, 0)) := by
        unfold Hid rneed
        rw [if_neg (fun h => by cases h.2), h0]
      have hle : p.1 + m ≤ s.size := by have := h.le; omega
      clear hsh h0 h
      rw [HR.out]
      generalize num (s.extract p.1 (p.1 + m)).data.toList 0 = v at *
      generalize hp : (p.2 : Int) = z at *
      go_enter Tryd.func46, Tryd.ntmps46
      go_wp2_with (first
        | (go_at_call 65; refine HN.out.mono ?_; rintro e w1 ⟨rfl, hc, hb⟩; have H1 := Lib.hid (H.out.moved hc hb hle); have HB1 := Lib.hid (Two.right (k := k) hb); clear hc hb HN)
        | (go_at_call 23; refine (need_any B k c s _ true 4 w1 H1.out).mono ?_; rintro e w2 ⟨rfl, hr, _, hb2⟩; have H2 := Lib.hid hr; have HB2 := Lib.hid (HB1.out.trans (Two.left hb2)); clear hr hb2))
      go_ret
      exact ⟨rfl, by rw [← HD.out]; exact H2.out, HB2.out⟩
  · have e0 : ((p.2 : Int) != 0) = true := by simp; omega
    have HR : Hid (rnum s m p = (0, p)) := if_neg h0
    clear h0 h
    rw [HR.out]
    generalize hp : (p.2 : Int) = z at *
    go_enter Tryd.func46, Tryd.ntmps46
    go_wp2
    go_ret
    exact ⟨rfl, H.out, Two.refl _ _ _⟩

theorem num_any (B k c : Nat) (s : ByteArray) (hs : s.size ≤ maxLen) (p : Nat × Nat) (m : Nat) (h1 : 1 ≤ m) (h4 : m ≤ 4) (w : World) (h : Rdd B k c s p w) :
    Calls Tryd.prog 46 #[.pointer (some ⟨k, 0, none⟩), .int .i64 m] w fun e w' => e = .returned (.int .i64 (rnum s m p).1) ∧ Rdd B k c s ((rnum s m p).2) w' ∧ Below B w w' :=
  (num_two B k c s hs p m h1 h4 w h).mono fun _ _ ⟨h2, h3, h5⟩ => ⟨h2, h3, h5.below h.bk h.bc h.lt⟩

set_option maxHeartbeats 1000000 in
theorem within_any (n a b : Int) (R : Bool) (hR : R = decide (a ≤ n ∧ n ≤ b)) (w : World) :
    Calls Tryd.prog 41 #[.int .i64 n, .int .i64 a, .int .i64 b] w fun e w' => e = .returned (.bool R) ∧ w = w' := by
  have HR := Lib.hid hR
  clear hR
  by_cases h1 : a ≤ n
  · by_cases h2 : n ≤ b
    · have HE : Hid (R = true) := by unfold Hid; rw [HR.out]; simp [h1, h2]
      rw [HE.out]
      go_enter Tryd.func41, Tryd.ntmps41
      go_wp2
      go_ret
      exact ⟨by simp, rfl⟩
    · have HE : Hid (R = false) := by unfold Hid; rw [HR.out]; simp [h2]
      rw [HE.out]
      go_enter Tryd.func41, Tryd.ntmps41
      go_wp2
      go_ret
      exact ⟨by simp, rfl⟩
  · have HE : Hid (R = false) := by unfold Hid; rw [HR.out]; simp [h1]
    rw [HE.out]
    have e1 : decide (a ≤ n) = false := decide_eq_false h1
    go_enter Tryd.func41, Tryd.ntmps41
    go_wp2
    go_ret
    exact ⟨by simp, rfl⟩
end Go.Proofs.YtfohgocdabgbgaaDoor
