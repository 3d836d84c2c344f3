/- Walks of package bits: the small functions. -/
import Derived.Test.YtmoennlpendknaaProg
import Derived.Test.YtmoennlpendknaaPlain2
import Derived.WalkKit
import Derived.BigCall
import Derived.WalkSpells
import Derived.WalkLawsBesides
import Derived.Lib.OwnKind
import Derived.Lib.Hide
import Derived.Laws.BitsAllLaws
import Derived.Deep.QuietTactic
import Derived.BigQuiet
import Derived.Outline
namespace Go.Proofs.Ytmoennlpendknaa
open Go.RowKit

theorem ret_bool {a b : Bool} (h : a = b) : Ending.returned (.bool a) = .returned (.bool b) := by rw [h]
theorem ret_int {k : IntKind} {a b : Int} (h : a = b) : Ending.returned (.int k a) = .returned (.int k b) := by rw [h]

set_option maxHeartbeats 400000 in
theorem counted_yes (z : Int) (h1 : 0 ≤ z) (h2 : z ≤ 16) (w : World) : Calls Try.prog 37 #[.int .i64 z] w fun e w' => e = .returned (.bool true) ∧ w = w' := by
  go_enter Try.func37, Try.ntmps37
  go_wp2
  go_ret
  exact ⟨rfl, rfl⟩
set_option maxHeartbeats 400000 in
theorem counted_no (z : Int) (h : z < 0 ∨ 16 < z) (w : World) : Calls Try.prog 37 #[.int .i64 z] w fun e w' => e = .returned (.bool false) ∧ w = w' := by
  rcases h with h | h
  · go_enter Try.func37, Try.ntmps37
    go_wp2
    go_ret
    exact ⟨rfl, rfl⟩
  · have h1 : 0 ≤ z := by omega
    have h2 : decide (z ≤ 16) = false := decide_eq_false (by omega)
    go_enter Try.func37, Try.ntmps37
    go_wp2
    go_ret
    exact ⟨rfl, rfl⟩

theorem ofInt_64 (a : Nat) (ha : a < 18446744073709551616) : (BitVec.ofInt 64 (a : Int)).toNat = a := by
  simp; omega
theorem i64_or_nat (a b : Nat) (ha : a < 9223372036854775808) (hb : b < 9223372036854775808) : bits .or .i64 (a : Int) (b : Int) = ((a ||| b : Nat) : Int) := by
  have hx : a ||| b < 2 ^ 63 := Nat.or_lt_two_pow (by omega) (by omega)
  show IntKind.i64.wrap ((BitVec.ofInt 64 (a : Int) ||| BitVec.ofInt 64 (b : Int)).toNat : Int) = _
  rw [BitVec.toNat_or, ofInt_64 a (by omega), ofInt_64 b (by omega)]
  generalize a ||| b = x at hx
  simp only [IntKind.wrap, IntKind.bits, IntKind.signed]
  simp
  omega
theorem i64_and_nat (a b : Nat) (ha : a < 9223372036854775808) (hb : b < 9223372036854775808) : bits .and .i64 (a : Int) (b : Int) = ((a &&& b : Nat) : Int) := by
  have hx : a &&& b < 2 ^ 63 := Nat.and_lt_two_pow _ (by omega)
  show IntKind.i64.wrap ((BitVec.ofInt 64 (a : Int) &&& BitVec.ofInt 64 (b : Int)).toNat : Int) = _
  rw [BitVec.toNat_and, ofInt_64 a (by omega), ofInt_64 b (by omega)]
  generalize a &&& b = x at hx
  simp only [IntKind.wrap, IntKind.bits, IntKind.signed]
  simp
  omega
theorem or_pow (a b n : Nat) (hb : b < 2 ^ n) : a * 2 ^ n ||| b = a * 2 ^ n + b := by
  have := Nat.two_pow_add_eq_or_of_lt (i := n) (b := b) hb a
  rw [Nat.mul_comm a]
  exact this.symm
theorem wrap64_small (z : Int) (h0 : 0 ≤ z) (h1 : z < 9223372036854775808) : wrap64 z = z := by
  unfold wrap64; omega

theorem wrap64_nat (x : Nat) (h : x < 9223372036854775808) : wrap64 (x : Int) = x := wrap64_small _ (by omega) (by omega)
theorem pow_le24 (n : Nat) (hn : n ≤ 24) : 2 ^ n ≤ 16777216 := Nat.le_trans (Nat.pow_le_pow_right (by omega) hn) (by decide)
theorem wrap_pow (n : Nat) (hn : n ≤ 24) : wrap64 (2 ^ n) = ((2 ^ n : Nat) : Int) := by
  have := pow_le24 n hn
  rw [show (2 : Int) ^ n = ((2 ^ n : Nat) : Int) by simp]
  exact wrap64_nat _ (by omega)
theorem low_and (v n : Nat) (hv : v < 16777216) (hn : n ≤ 24) : bits .and .i64 (v : Int) (wrap64 (wrap64 (2 ^ n) - 1)) = ((v % 2 ^ n : Nat) : Int) := by
  have h1 := pow_le24 n hn
  have h2 := Nat.two_pow_pos n
  rw [wrap_pow n hn, wrap64_small _ (by omega) (by omega), show ((2 ^ n : Nat) : Int) - 1 = ((2 ^ n - 1 : Nat) : Int) by omega, i64_and_nat _ _ (by omega) (by omega), Nat.and_two_pow_sub_one_eq_mod]
set_option maxHeartbeats 400000 in
theorem lowest_any (v n : Nat) (hv : v < 16777216) (hn : n ≤ 24) (w : World) : Calls Try.prog 40 #[.int .i64 v, .int .i64 n] w fun e w' => e = .returned (.int .i64 (v % 2 ^ n : Nat)) ∧ w = w' := by
  go_enter Try.func40, Try.ntmps40
  go_wp2
  go_ret
  exact ⟨ret_int (low_and v n hv hn), rfl⟩

theorem bytes_at (s : ByteArray) (a : Nat) (h : a < s.size) : s.data.toList[a]? = some s[a] := by
  rw [List.getElem?_eq_getElem (by simpa using h)]; rfl
theorem bytes_none (s : ByteArray) (a : Nat) (h : s.size ≤ a) : s.data.toList[a]? = none := List.getElem?_eq_none (by simpa using h)
theorem toNat_255 (b : UInt8) : b = 255 ↔ b.toNat = 255 := by rw [← UInt8.toNat_inj]; rfl
theorem toNat_0 (b : UInt8) : b = 0 ↔ b.toNat = 0 := by rw [← UInt8.toNat_inj]; rfl
theorem ret_ints {a b c d : Int} (h1 : a = c) (h2 : b = d) : Ending.returned (.tuple #[.int .i64 a, .int .i64 b]) = .returned (.tuple #[.int .i64 c, .int .i64 d]) := by rw [h1, h2]

set_option maxHeartbeats 1000000 in
theorem dataByte_any (s : ByteArray) (a : Nat) (hs : s.size ≤ maxLen) (ha : a ≤ s.size) (w : World) :
    Calls Try.prog 41 #[.string s, .int .i64 a] w fun e w' => e = .returned (.tuple #[.int .i64 (dbyte s.data.toList a).1, .int .i64 (dbyte s.data.toList a).2]) ∧ w = w' := by
  unfold maxLen at hs
  by_cases h1 : a < s.size
  · have e1 := bytes_at s a h1
    have hb := s[a].toNat_lt
    by_cases h2 : s[a].toNat = 255
    · by_cases h3 : a + 1 < s.size
      · have e3 := bytes_at s (a + 1) h3
        by_cases h4 : s[a + 1].toNat = 0
        · have HE : Hid (dbyte s.data.toList a = (255, 2)) := by unfold Hid dbyte; rw [e1]; simp only []; rw [if_pos ((toNat_255 _).2 h2), e3, if_pos (by rw [(toNat_0 _).2 h4])]
          clear e1 e3
          go_enter Try.func41, Try.ntmps41
          go_wp2
          go_ret2
          exact ⟨by rw [HE.out]; rfl, rfl⟩
        · have HE : Hid (dbyte s.data.toList a = (0, 0)) := by unfold Hid dbyte; rw [e1]; simp only []; rw [if_pos ((toNat_255 _).2 h2), e3, if_neg (by simp; exact fun h => h4 ((toNat_0 _).1 h))]
          clear e1 e3
          go_enter Try.func41, Try.ntmps41
          go_wp2
          go_ret2
          exact ⟨by rw [HE.out]; rfl, rfl⟩
      · have e3 := bytes_none s (a + 1) (by omega)
        have HE : Hid (dbyte s.data.toList a = (0, 0)) := by unfold Hid dbyte; rw [e1]; simp only []; rw [if_pos ((toNat_255 _).2 h2), e3, if_neg (by simp)]
        clear e1 e3
        go_enter Try.func41, Try.ntmps41
        go_wp2
        go_ret2
        exact ⟨by rw [HE.out]; rfl, rfl⟩
    · have HE : Hid (dbyte s.data.toList a = (s[a].toNat, 1)) := by unfold Hid dbyte; rw [e1]; simp only []; rw [if_neg (fun h => h2 ((toNat_255 _).1 h))]
      clear e1
      go_enter Try.func41, Try.ntmps41
      go_wp2
      go_ret2
      exact ⟨by rw [HE.out]; rfl, rfl⟩
  · have HE : Hid (dbyte s.data.toList a = (0, 0)) := by unfold Hid dbyte; rw [bytes_none s a (by omega)]
    go_enter Try.func41, Try.ntmps41
    go_wp2
    go_ret2
    exact ⟨by rw [HE.out]; rfl, rfl⟩

end Go.Proofs.Ytmoennlpendknaa
