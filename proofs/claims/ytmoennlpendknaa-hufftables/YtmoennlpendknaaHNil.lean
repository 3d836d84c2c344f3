/- A walk: nil tables, readers and writers; equal counts. -/
import Derived.Test.YtmoennlpendknaaHAwake
import Derived.ChangeKeysEq
namespace Go.Proofs.Ytmoennlpendknaa
open Go.RowKit

theorem run_part_cnt (w : World) (c : Nat → Nat) {i : Nat} (hi : i < 16) : (part 5 (cnt c) i).run Try.prog w = .ok (.int .u8 (c i : Nat)) w := by
  unfold part isAgg
  simp only [Sem.run_bind, run_underlying Try.underlying5, Result.andThen_ok, Sem.run_pure, Bool.false_eq_true, if_false, cnt_at c i hi]
theorem run_eqItems_cnt (d : Nat) (c : Nat → Nat) : ∀ (is : List Nat) (w : World), (∀ i ∈ is, i < 16) → (Op.eqItems (d + 1) 5 1 (cnt c) (cnt c) is).run Try.prog w = .ok true w
  | [], w, _ => by simp [Op.eqItems]
  | i :: is, w, h => by
    have hi := h i (by simp)
    have ih := run_eqItems_cnt d c is w fun j hj => h j (by simp [hj])
    simp only [Op.eqItems, Sem.run_bind, Nat.mul_one, run_part_cnt w c hi, Result.andThen_ok, run_equalIn_int w d 5 .u8 .u8 _ _ Try.underlying5]
    simpa using ih
theorem eq22 (c : Nat → Nat) (w : World) : (Op.equalIn 10000 22 (.agg (cnt c)) (.agg (cnt c))).run Try.prog w = .ok true w := by
  obtain ⟨i, hi⟩ : ∃ i, Try.prog.info? 5 = some i := Option.isSome_iff_exists.1 (by kernel_rfl)
  rw [show (10000 : Nat) = 9998 + 1 + 1 from rfl, run_equalIn_array w (9998 + 1) _ _ Try.underlying22 hi, show Try.prog.cellsOf 5 = 1 by kernel_rfl]
  exact run_eqItems_cnt 9998 c _ w fun j hj => by simpa using hj
theorem guard22 : Try.prog.eqGuardType Try.prog.depth 22 = false := by kernel_rfl
theorem eq22z (w : World) : (Op.equalIn 10000 22 (.agg (cnt fun _ => 0)) (.agg #[.int .u8 0, .int .u8 0, .int .u8 0, .int .u8 0, .int .u8 0, .int .u8 0, .int .u8 0, .int .u8 0, .int .u8 0, .int .u8 0, .int .u8 0, .int .u8 0, .int .u8 0, .int .u8 0, .int .u8 0, .int .u8 0])).run Try.prog w = .ok true w := eq22 (fun _ => 0) w

def c1 (i : Nat) : Nat := [1].getD i 0
def s1 : ByteArray := ⟨#[97]⟩
theorem c1_lt (i : Nat) : c1 i < 256 := by
  unfold c1
  match i with
  | 0 => decide
  | i + 1 => simp
theorem right1 : Right c1 s1.data.toList := ⟨by decide +kernel, by decide +kernel, by decide +kernel, by decide +kernel, by decide +kernel⟩
theorem New_one (w : World) : Calls Try.prog 10 #[.agg #[.int .u8 1, .int .u8 0, .int .u8 0, .int .u8 0, .int .u8 0, .int .u8 0, .int .u8 0, .int .u8 0, .int .u8 0, .int .u8 0, .int .u8 0, .int .u8 0, .int .u8 0, .int .u8 0, .int .u8 0, .int .u8 0], .string ⟨#[97]⟩] w
    fun e w' => ∃ g, e = .returned (.tuple #[.pointer (some ⟨g, 0, none⟩), .int .i64 0]) ∧ Tbl g c1 s1 w' ∧ w.heap.size ≤ g ∧ Below w.heap.size w w' :=
  New_yes c1 c1_lt s1 (by decide) right1 w

set_option maxHeartbeats 2000000 in
theorem HuffNil_any (z : Int) (w : World) : Calls Try.prog 8 #[.int .i64 z] w fun e w' => e = .returned (.bool true) ∧ Below w.heap.size w w' := by
  go_enter Try.func8, Try.ntmps8
  go_wp2_with (go_at_call 12; refine (Code_nil z _).mono ?_; rintro e w' ⟨rfl, rfl⟩)
  go_at_call 14
  refine (NewReader_bits ⟨#[97, 98, 99]⟩ (by decide) w).mono ?_
  rintro e w1 ⟨rfl, _, b1⟩
  have HB1 := Lib.hid b1
  clear b1
  go_wp2_with (go_at_call 16; refine (Next_nil _ _).mono ?_; rintro e w' ⟨rfl, rfl⟩)
  go_at_call 11
  refine (New_bits w1).mono ?_
  rintro e w2 ⟨rfl, _, b2⟩
  have HB2 := Lib.hid (HB1.out.trans (b2.mono HB1.out.size))
  clear b2
  go_wp2_with (go_at_call 13; refine (TPut_nil _ z _).mono ?_; rintro e w' ⟨rfl, rfl⟩)
  go_at_call 10
  refine (New_one w2).mono ?_
  rintro e w3 ⟨g, rfl, t3, _, b3⟩
  have HB3 := Lib.hid (HB2.out.trans (b3.mono HB2.out.size))
  clear b3
  go_wp2_with (go_at_call 16; refine (Next_none g _).mono ?_; rintro e w' ⟨rfl, rfl⟩)
  go_at_call 9
  refine (awake_any w3).mono ?_
  rintro e w4 ⟨rfl, b4⟩
  have HB4 := Lib.hid (HB3.out.trans (b4.mono HB3.out.size))
  clear b4
  go_wp2_with (first
    | (go_at_call 13; refine (TPut_none g 97 _).mono ?_; rintro e w' ⟨rfl, rfl⟩)
    | (go_at_call 17; refine (Symbols_nil _).mono ?_; rintro e w' ⟨rfl, rfl⟩))
  go_at_call 18
  refine (Counts_nil w4).mono ?_
  rintro e w5 ⟨rfl, b5⟩
  have HB5 := Lib.hid (HB4.out.trans (b5.mono HB4.out.size))
  have hq := eq22z w5
  have hg := guard22
  clear b5
  go_wp2
  go_ret
  exact ⟨rfl, HB5.out⟩
end Go.Proofs.Ytmoennlpendknaa
