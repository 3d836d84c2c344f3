/- The document's example answers true; the laws on nil cursors and on Put. -/
import Derived.Test.YtdfanplihheofaaWalk2
import Derived.Test.YtdfanplihheofaaPut
namespace Go.Proofs.Ytdfanplihheofaa
open Go.RowKit

theorem ex_num1 : numbered ⟨#[1, 2, 3]⟩ 0 2 = (258, 2, 0) := by decide +kernel
theorem ex_num2 : numbered ⟨#[1, 2, 3]⟩ 2 2 = (0, 2, 2) := by decide +kernel
theorem ex_put1 : putted 258 2 = (⟨#[1, 2]⟩, 0) := by decide +kernel
theorem ex_put2 : putted 256 1 = (⟨#[]⟩, 11) := by decide +kernel
theorem ex_rest : (⟨#[1, 2, 3]⟩ : ByteArray).extract 2 (⟨#[1, 2, 3]⟩ : ByteArray).size = ⟨#[3]⟩ := by decide +kernel

theorem cur_on {k : Nat} {s : ByteArray} {a : Nat} {w w' : World} (h : Cur k s a w) (hb : Below w.heap.size w w') : Cur k s a w' := (hb.block k h.lt).trans h

theorem New_cur (s : ByteArray) (w : World) : Calls Try.prog 10 #[.string s] w fun e w' => e = .returned (.pointer (some ⟨w.heap.size, 0, none⟩)) ∧ Cur w.heap.size s 0 w' ∧ Below w.heap.size w w' :=
  (New_any s w).mono fun e w' ⟨he, hw⟩ => ⟨he, by rw [hw]; exact heap_alloc_new _ _, by rw [hw]; exact (Below.refl _ _).alloc (Nat.le_refl _) _⟩

set_option maxHeartbeats 1000000 in
theorem awake_any (w : World) : Calls Try.prog 8 #[] w fun e w' => e = .returned (.bool true) ∧ Below w.heap.size w w' := by
  go_enter Try.func8, Try.ntmps8
  go_wp2_with fail
  go_at_call 10
  refine (New_cur _ w).mono ?_
  rintro e w' ⟨rfl, hc1, hb1⟩
  have h2 := Num_any w.heap.size ⟨#[1, 2, 3]⟩ 0 2 w' hc1 (by decide) (by decide)
  rw [ex_num1] at h2
  have H2 := Lib.hid h2
  have B1 := Lib.hid hb1
  have hs1 := hb1.size
  clear h2 hb1 hc1
  go_wp2_with fail
  go_at_call 11
  refine H2.out.mono ?_
  rintro e w2 ⟨rfl, c2, b2⟩
  have h3 := Num_any w.heap.size ⟨#[1, 2, 3]⟩ 2 2 w2 c2 (by decide) (by decide)
  rw [ex_num2] at h3
  have H3 := Lib.hid h3
  have B2 := Lib.hid (B1.out.trans (b2.below (Nat.le_refl _) hs1))
  clear h3 b2 c2
  go_wp2_with fail
  go_at_call 11
  refine H3.out.mono ?_
  rintro e w3 ⟨rfl, c3, b3⟩
  have B3 := Lib.hid (B2.out.trans (b3.below (Nat.le_refl _) (B2.out.size)))
  have h4 := Put_any 258 2 w3
  rw [ex_put1] at h4
  have H4 := Lib.hid h4
  have C3 := Lib.hid c3
  clear h4 b3 c3
  go_wp2_with fail
  go_at_call 9
  refine H4.out.mono ?_
  rintro e w4 ⟨rfl, b4⟩
  have C4 := Lib.hid (cur_on C3.out b4)
  have B4 := Lib.hid (B3.out.trans (b4.mono B3.out.size))
  have h5 := Put_any 256 1 w4
  rw [ex_put2] at h5
  have H5 := Lib.hid h5
  clear h5 b4
  go_wp2_with fail
  go_at_call 9
  refine H5.out.mono ?_
  rintro e w5 ⟨rfl, b5⟩
  have C5 := Lib.hid (cur_on C4.out b5)
  have B5 := Lib.hid (B4.out.trans (b5.mono B4.out.size))
  have h6 := Rest_any w.heap.size ⟨#[1, 2, 3]⟩ 2 w5 C5.out (by decide) (by decide)
  rw [ex_rest] at h6
  have H6 := Lib.hid h6
  clear h6 b5
  go_wp2_with fail
  go_at_call 18
  refine H6.out.mono ?_
  rintro e w6 ⟨rfl, c6, b6⟩
  have B6 := Lib.hid (B5.out.trans (b6.below (Nat.le_refl _) B5.out.size))
  clear c6 b6
  go_wp2
  go_ret
  exact ⟨rfl, B6.out⟩

set_option maxHeartbeats 1000000 in
theorem CursorNil_any (n : Int) (w : World) : Calls Try.prog 7 #[.int .i64 n] w fun e w' => e = .returned (.bool true) ∧ Below w.heap.size w w' := by
  go_enter Try.func7, Try.ntmps7
  go_wp2_with (first
    | (go_at_call 16; refine (Take_nil n _).mono ?_; rintro e w' ⟨rfl, rfl⟩)
    | (go_at_call 17; refine (Sub_nil n _).mono ?_; rintro e w' ⟨rfl, rfl⟩)
    | (go_at_call 11; refine (Num_nil _).mono ?_; rintro e w' ⟨rfl, rfl⟩))
  go_at_call 8
  refine (awake_any _).mono ?_
  rintro e w' ⟨rfl, hb⟩
  have HB := Lib.hid hb
  clear hb
  go_wp2_with (first
    | (go_at_call 12; refine (At_nil _).mono ?_; rintro e w' ⟨rfl, rfl⟩)
    | (go_at_call 13; refine (Left_nil _).mono ?_; rintro e w' ⟨rfl, rfl⟩)
    | (go_at_call 18; refine (Rest_nil _).mono ?_; rintro e w' ⟨rfl, rfl⟩))
  go_ret
  exact ⟨rfl, HB.out⟩

set_option maxHeartbeats 1000000 in
theorem CursorPuts_any (n m : Int) (w : World) : Calls Try.prog 5 #[.int .i64 n, .int .i64 m] w fun e w' => e = .returned (.bool true) ∧ Below w.heap.size w w' := by
  have HP := fun W => Lib.hid (Put_any n m W)
  have HR := fun W => Lib.hid (rPut_any n m W)
  generalize putted n m = R at HP HR
  obtain ⟨s, c⟩ := R
  have hc : (((c : Nat) : Int) == ((c : Nat) : Int)) = true := beq_self_eq_true _
  simp only at HP HR
  go_enter Try.func5, Try.ntmps5
  go_wp2_with fail
  go_at_call 9
  refine (HP w).out.mono ?_
  rintro e w1 ⟨rfl, b1⟩
  have B1 := Lib.hid b1
  clear b1
  go_wp2_with fail
  go_at_call 19
  refine (HR w1).out.mono ?_
  rintro e w2 ⟨rfl, b2⟩
  have B2 := Lib.hid (B1.out.trans (b2.mono B1.out.size))
  clear b2
  go_wp2_with fail
  go_at_call 8
  refine (awake_any w2).mono ?_
  rintro e w3 ⟨rfl, b3⟩
  have B3 := Lib.hid (B2.out.trans (b3.mono B2.out.size))
  clear b3
  go_wp2
  go_ret
  exact ⟨rfl, B3.out⟩
end Go.Proofs.Ytdfanplihheofaa
