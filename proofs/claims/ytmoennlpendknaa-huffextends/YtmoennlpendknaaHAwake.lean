/- Walks: the document's examples; HuffExtends, HuffNil. -/
import Derived.Test.YtmoennlpendknaaHExt
namespace Go.Proofs.Ytmoennlpendknaa
open Go.RowKit

def c0 (i : Nat) : Nat := [0, 1, 5, 1].getD i 0
def s0 : ByteArray := ⟨#[0, 1, 2, 3, 4, 5, 6]⟩
theorem c0_lt (i : Nat) : c0 i < 256 := by
  unfold c0
  match i with
  | 0 => decide
  | 1 => decide
  | 2 => decide
  | 3 => decide
  | i + 4 => simp
theorem right0 : Right c0 s0.data.toList := ⟨by decide +kernel, by decide +kernel, by decide +kernel, by decide +kernel, by decide +kernel⟩
theorem New_ex (w : World) : Calls Try.prog 10 #[.agg #[.int .u8 0, .int .u8 1, .int .u8 5, .int .u8 1, .int .u8 0, .int .u8 0, .int .u8 0, .int .u8 0, .int .u8 0, .int .u8 0, .int .u8 0, .int .u8 0, .int .u8 0, .int .u8 0, .int .u8 0, .int .u8 0], .string ⟨#[0, 1, 2, 3, 4, 5, 6]⟩] w
    fun e w' => ∃ g, e = .returned (.tuple #[.pointer (some ⟨g, 0, none⟩), .int .i64 0]) ∧ Tbl g c0 s0 w' ∧ w.heap.size ≤ g ∧ Below w.heap.size w w' :=
  New_yes c0 c0_lt s0 (by decide) right0 w
theorem Code_ex (g : Nat) (w : World) (h : Tbl g c0 s0 w) : Calls Try.prog 12 #[.pointer (some ⟨g, 0, none⟩), .int .i64 5] w fun e w' => e = .returned (.tuple #[.int .i64 6, .int .i64 3, .bool true]) ∧ w = w' := by
  have := Code_yes g c0 c0_lt s0 right0 5 (by decide) w h
  rw [show codeN c0 5 = 6 by decide +kernel, show codeL c0 5 = 3 by decide +kernel] at this
  exact this
theorem short_ex : short (-3) = (2, 0) := by decide +kernel
theorem ext_ex : ext 0 2 = -3 := by decide +kernel

set_option maxHeartbeats 1000000 in
theorem awake_any (w : World) : Calls Try.prog 9 #[] w fun e w' => e = .returned (.bool true) ∧ Below w.heap.size w w' := by
  have hS := fun W => Shorten_any (-3) W
  rw [short_ex] at hS
  have hE := fun W => Extend_any 0 2 W
  rw [ext_ex] at hE
  have HS := Lib.hid hS
  have HE := Lib.hid hE
  clear hS hE
  go_enter Try.func9, Try.ntmps9
  go_wp2_with fail
  go_at_call 10
  refine (New_ex w).mono ?_
  rintro e w1 ⟨g, rfl, t1, _, b1⟩
  have HC := Lib.hid (Code_ex g w1 t1)
  have HB := Lib.hid b1
  clear t1 b1
  go_wp2_with (go_at_call 12; refine HC.out.mono ?_; rintro e w' ⟨rfl, rfl⟩)
  go_at_call 23
  refine (HS.out _).mono ?_
  rintro e w2 ⟨rfl, n2, rfl⟩
  go_wp2_with (go_at_call 25; refine (HE.out _).mono ?_; rintro e w' ⟨rfl, rfl⟩)
  go_ret
  exact ⟨rfl, HB.out.trans (below_drewN _ _ _)⟩

set_option maxHeartbeats 1000000 in
theorem HuffExtends_any (v n : Int) (w : World) : Calls Try.prog 7 #[.int .i64 v, .int .i64 n] w fun e w' => e = .returned (.bool true) ∧ Below w.heap.size w w' := by
  have HS := Lib.hid (Shorten_any v)
  have HR := Lib.hid (RefShorten_any v)
  have HE := Lib.hid (Extend_any v n)
  have HF := Lib.hid (RefExtend_any v n)
  have hX := Extend_any (short v).2 (short v).1
  have hx := ext_short v
  generalize hk : (short v).1 = k at *
  generalize hb : (short v).2 = b at *
  generalize ext v n = X at *
  clear hk hb
  by_cases h0 : k = 0
  · subst h0
    clear hX hx
    go_enter Try.func7, Try.ntmps7
    go_wp2_with fail
    go_at_call 23
    refine (HS.out _).mono ?_
    rintro e w1 ⟨rfl, n1, rfl⟩
    go_wp2_with (first
      | (go_at_call 24; refine (HR.out _).mono ?_; rintro e w' ⟨rfl, rfl⟩)
      | (go_at_call 25; refine (HE.out _).mono ?_; rintro e w' ⟨rfl, rfl⟩)
      | (go_at_call 26; refine (HF.out _).mono ?_; rintro e w' ⟨rfl, rfl⟩))
    go_at_call 9
    refine (awake_any _).mono ?_
    rintro e w2 ⟨rfl, b2⟩
    have HB2 := Lib.hid b2
    clear b2
    go_wp2
    go_ret
    exact ⟨rfl, (below_drewN _ _ n1).trans HB2.out⟩
  · rw [hx h0] at hX
    have HX := Lib.hid hX
    have hk0 : ((k : Int) == 0) = false := by rw [beq_eq_false_iff_ne]; omega
    clear hX hx h0
    go_enter Try.func7, Try.ntmps7
    go_wp2_with fail
    go_at_call 23
    refine (HS.out _).mono ?_
    rintro e w1 ⟨rfl, n1, rfl⟩
    go_wp2_with (first
      | (go_at_call 24; refine (HR.out _).mono ?_; rintro e w' ⟨rfl, rfl⟩)
      | (go_at_call 25; refine (HE.out _).mono ?_; rintro e w' ⟨rfl, rfl⟩)
      | (go_at_call 26; refine (HF.out _).mono ?_; rintro e w' ⟨rfl, rfl⟩))
    go_at_call 9
    refine (awake_any _).mono ?_
    rintro e w2 ⟨rfl, b2⟩
    have HB2 := Lib.hid b2
    clear b2
    go_wp2_with (go_at_call 25; refine (HX.out _).mono ?_; rintro e w' ⟨rfl, rfl⟩)
    go_ret
    exact ⟨rfl, (below_drewN _ _ n1).trans HB2.out⟩
end Go.Proofs.Ytmoennlpendknaa
