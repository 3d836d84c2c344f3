/- The writer: num, marker; a segment without a body. -/
import Derived.Test.YtfohgocdabgbgaaDoorSParse
namespace Go.Proofs.YtfohgocdabgbgaaDoor
open Go.RowKit

/-- The bytes of a number, none if it doesn't fit. -/
def pbytes (n m : Int) : List UInt8 := (putted n m).1.data.toList
theorem pbytes_length (n m : Int) : (pbytes n m).length ≤ 4 := by
  unfold pbytes putted
  split
  · simp
  · split
    · simp
    · simp [be_length]; omega
theorem putted_size (n m : Int) : (putted n m).1.size = (pbytes n m).length := by
  unfold pbytes
  simp
theorem pbytes_one (n : Nat) (h : n < 256) : pbytes n 1 = [n.toUInt8] := by
  unfold pbytes putted
  rw [if_neg (by omega), if_neg (by simp; omega)]
  simp [be, Nat.mod_eq_of_lt h]

theorem Bld.on {B b : Nat} {l : List UInt8} {w w' : World} (h : Bld B b l w) (hb : Below w.heap.size w w') : Bld B b l w' := by
  have key : ∀ p, Lib.BuilderAt 95 5 B b p (Lib.byteCells l) w → Lib.BuilderAt 95 5 B b p (Lib.byteCells l) w' := by
    rintro p ⟨h1, v, h2, h3, h4⟩
    exact ⟨h1, v, (hb.block b (Array.getElem?_eq_some_iff.1 h2).1).trans h2, World.ownsRow.kept h3 (below_grown hb) (by cases v.ownBlock <;> simp), h4⟩
  rcases h with h | h
  · exact .inl (key _ h)
  · exact .inr (key _ h)
theorem Bld.lt {B b : Nat} {l : List UInt8} {w : World} (h : Bld B b l w) : b < w.heap.size ∧ B ≤ b := by
  rcases h with h | h
  · exact ⟨h.lt, h.1⟩
  · exact ⟨h.lt, h.1⟩

set_option maxHeartbeats 1000000 in
theorem wnum_any (B b : Nat) (l : List UInt8) (n m : Int) (w : World) (h : Bld B b l w) (hl : l.length ≤ 1000000000) :
    Calls Tryd.prog 31 #[.pointer (some ⟨b, 0, none⟩), .int .i64 n, .int .i64 m] w fun e w' => e = .returned (.tuple #[]) ∧ Bld B b (l ++ pbytes n m) w' ∧ Below B w w' := by
  have H := Lib.hid h
  have HP := Lib.hid (Put_any n m w)
  have hpl := pbytes_length n m
  have hps := putted_size n m
  have HL : Hid (l ++ (putted n m).1.data.toList = l ++ pbytes n m) := rfl
  have hbl := h.lt
  clear h
  generalize (putted n m).2 = er at *
  generalize hS : (putted n m).1 = S at *
  clear hS
  go_enter Tryd.func31, Tryd.ntmps31
  go_wp2_with (first
    | (go_at_call 53; refine HP.out.mono ?_; rintro e w1 ⟨rfl, hb1⟩; have H1 := Lib.hid (H.out.on hb1); have HB1 := Lib.hid hb1; clear hb1 HP)
    | (go_at_call 26; refine (WriteString_any B b l S w1 H1.out (by omega) (by have := HB1.out.size; omega)).mono ?_; rintro e w2 ⟨rfl, hr, hb2⟩; rw [HL.out] at hr; have H2 := Lib.hid hr; have HB2 := Lib.hid ((HB1.out.mono (by omega)).trans hb2); clear hr hb2))
  go_end0
  exact ⟨rfl, H2.out, HB2.out⟩
set_option maxHeartbeats 1000000 in
theorem marker_any (B b : Nat) (l : List UInt8) (n : Int) (w : World) (h : Bld B b l w) (hl : l.length ≤ 100000000) :
    Calls Tryd.prog 49 #[.pointer (some ⟨b, 0, none⟩), .int .i64 n] w fun e w' => e = .returned (.tuple #[]) ∧ Bld B b (l ++ [255] ++ pbytes n 1) w' ∧ Below B w w' := by
  have H := Lib.hid h
  have HP : Hid (pbytes 255 1 = [255]) := pbytes_one 255 (by omega)
  clear h
  go_enter Tryd.func49, Tryd.ntmps49
  go_wp2_with (first
    | (go_at_call 31; refine (wnum_any B b l 255 1 w H.out (by omega)).mono ?_; rintro e w1 ⟨rfl, hr, hb1⟩; rw [HP.out] at hr; have H1 := Lib.hid hr; have HB1 := Lib.hid hb1; clear hb1 hr H)
    | (go_at_call 31; refine (wnum_any B b (l ++ [255]) n 1 w1 H1.out (by simp; omega)).mono ?_; rintro e w2 ⟨rfl, hr, hb2⟩; have H2 := Lib.hid hr; have HB2 := Lib.hid (HB1.out.trans hb2); clear hb2 hr H1))
  go_end0
  exact ⟨rfl, H2.out, HB2.out⟩

/-- A struct of one int that is boxed. -/
theorem cell_one (w : World) (x : Value) (t : TypeId) : (w.alloc (.cells #[x] t)).cell? ⟨w.heap.size, 0, none⟩ = some x := by
  rw [cell_of_row _ w.heap.size 0 _ t (0, 0) (heap_alloc_new w _)]
  rfl
set_option maxHeartbeats 1000000 in
theorem bare_no (z : Int) (h : ¬ (208 ≤ z ∧ z ≤ 217)) (w : World) :
    Calls Tryd.prog 25 #[.agg #[.int .i64 z]] w fun e w' => e = .returned (.tuple #[.string ⟨#[]⟩, .int .i64 1]) ∧ Below w.heap.size w w' := by
  have HW := Lib.hid (within_any z 208 217 false (decide_eq_false h).symm)
  have HB := Lib.hid (below_new w (.cells #[.int .i64 z] 58))
  have x0 := cell_one w (.int .i64 z) 58
  clear h
  go_enter Tryd.func25, Tryd.ntmps25
  go_wp2_with (go_at_call 41; refine (HW.out _).mono ?_; rintro e w' ⟨rfl, rfl⟩; clear HW)
  go_ret2
  exact ⟨rfl, HB.out⟩
set_option maxHeartbeats 1000000 in
theorem bare_yes (n : Nat) (h1 : 208 ≤ n) (h2 : n ≤ 217) (w : World) :
    Calls Tryd.prog 25 #[.agg #[.int .i64 n]] w fun e w' => e = .returned (.tuple #[.string ⟨#[255, n.toUInt8]⟩, .int .i64 0]) ∧ Below w.heap.size w w' := by
  have HW := Lib.hid (within_any n 208 217 true (decide_eq_true (by omega)).symm)
  have hb0 := below_new w (.cells #[.int .i64 n] 58)
  have x0 := cell_one w (.int .i64 n) 58
  obtain ⟨w1, hw1⟩ : ∃ w1, w1 = w.alloc (.cells #[.int .i64 (n : Int)] 58) := ⟨_, rfl⟩
  rw [← hw1] at hb0 x0
  have hs1 : w1.heap.size = w.heap.size + 1 := by rw [hw1, size_alloc]
  have HBL := Lib.hid (Bld.new w1)
  have x1 := cell_below x0 (below_new w1 (.cells #[.pointer none, .slice none 0 0] 95))
  have HB1 := Lib.hid (hb0.alloc (by omega) (.cells #[.pointer none, .slice none 0 0] 95))
  have HM : Hid (Calls Tryd.prog 49 #[.pointer (some ⟨w.heap.size + 1, 0, none⟩), .int .i64 n] (w1.alloc (.cells #[.pointer none, .slice none 0 0] 95)) fun e w' => e = .returned (.tuple #[]) ∧ Bld (w.heap.size + 1) (w.heap.size + 1) [255, n.toUInt8] w' ∧ Below (w.heap.size + 1) (w1.alloc (.cells #[.pointer none, .slice none 0 0] 95)) w') := by
    have h := marker_any w1.heap.size w1.heap.size [] n _ HBL.out (by simp)
    rw [pbytes_one n (by omega), hs1] at h
    exact h
  have HS := Lib.hid (fun x hx => String_some (w.heap.size + 1) (w.heap.size + 1) [255, n.toUInt8] x hx (by simp))
  clear h1 h2 hb0 HBL hs1
  go_enter Tryd.func25, Tryd.ntmps25
  go_wp2_with (first
    | (go_at_call 41; rw [← hw1]; refine (HW.out _).mono ?_; rintro e w' ⟨rfl, rfl⟩; clear HW)
    | (go_at_call 49; rw [← hw1]; refine HM.out.mono ?_; rintro e w2 ⟨rfl, hr, hb2⟩; have H2 := Lib.hid hr; have HB2 := Lib.hid (HB1.out.trans (hb2.mono (by omega))); clear HM hr hb2)
    | (go_at_call 33; refine (HS.out w2 H2.out).mono ?_; rintro e w3 ⟨rfl, hb3⟩; have HB3 := Lib.hid (HB2.out.trans (hb3.mono (by omega))); clear hb3))
  go_ret2
  exact ⟨rfl, HB3.out⟩
end Go.Proofs.YtfohgocdabgbgaaDoor
