/- Walks of package bits: the small functions. -/
import Derived.Test.YtfohgocdabgbgaaDoorProg
import Derived.Test.YtfohgocdabgbgaaDoorPlain2
import Derived.WalkKit
import Derived.BigCall
import Derived.WalkSpells
import Derived.WalkLawsBesides
import Derived.Lib.OwnKind
import Derived.Lib.Hide
import Derived.Laws.BitsAllLaws
import Derived.Deep.QuietTactic
import Derived.BigQuiet
import Derived.Outline
namespace Go.Proofs.YtfohgocdabgbgaaDoor
open Go.RowKit

theorem ret_bool {a b : Bool} (h : a = b) : Ending.returned (.bool a) = .returned (.bool b) := by rw [h]
theorem ret_int {k : IntKind} {a b : Int} (h : a = b) : Ending.returned (.int k a) = .returned (.int k b) := by rw [h]

theorem ofInt_64 (a : Nat) (ha : a < 18446744073709551616) : (BitVec.ofInt 64 (a : Int)).toNat = a := by
  simp; omega
theorem i64_or_nat (a b : Nat) (ha : a < 9223372036854775808) (hb : b < 9223372036854775808) : bits .or .i64 (a : Int) (b : Int) = ((a ||| b : Nat) : Int) := by
  have hx : a ||| b < 2 ^ 63 := Nat.or_lt_two_pow (by omega) (by omega)
  show IntKind.i64.wrap ((BitVec.ofInt 64 (a : Int) ||| BitVec.ofInt 64 (b : Int)).toNat : Int) = _
  rw [BitVec.toNat_or, ofInt_64 a (by omega), ofInt_64 b (by omega)]
  generalize a ||| b = x at hx
  simp only [IntKind.wrap, IntKind.bits, IntKind.signed]
  simp
  omega
theorem i64_and_nat (a b : Nat) (ha : a < 9223372036854775808) (hb : b < 9223372036854775808) : bits .and .i64 (a : Int) (b : Int) = ((a &&& b : Nat) : Int) := by
  have hx : a &&& b < 2 ^ 63 := Nat.and_lt_two_pow _ (by omega)
  show IntKind.i64.wrap ((BitVec.ofInt 64 (a : Int) &&& BitVec.ofInt 64 (b : Int)).toNat : Int) = _
  rw [BitVec.toNat_and, ofInt_64 a (by omega), ofInt_64 b (by omega)]
  generalize a &&& b = x at hx
  simp only [IntKind.wrap, IntKind.bits, IntKind.signed]
  simp
  omega
theorem or_pow (a b n : Nat) (hb : b < 2 ^ n) : a * 2 ^ n ||| b = a * 2 ^ n + b := by
  have := Nat.two_pow_add_eq_or_of_lt (i := n) (b := b) hb a
  rw [Nat.mul_comm a]
  exact this.symm
theorem wrap64_small (z : Int) (h0 : 0 ≤ z) (h1 : z < 9223372036854775808) : wrap64 z = z := by
  unfold wrap64; omega

theorem wrap64_nat (x : Nat) (h : x < 9223372036854775808) : wrap64 (x : Int) = x := wrap64_small _ (by omega) (by omega)
theorem pow_le24 (n : Nat) (hn : n ≤ 24) : 2 ^ n ≤ 16777216 := Nat.le_trans (Nat.pow_le_pow_right (by omega) hn) (by decide)
theorem wrap_pow (n : Nat) (hn : n ≤ 24) : wrap64 (2 ^ n) = ((2 ^ n : Nat) : Int) := by
  have := pow_le24 n hn
  rw [show (2 : Int) ^ n = ((2 ^ n : Nat) : Int) by simp]
  exact wrap64_nat _ (by omega)
theorem low_and (v n : Nat) (hv : v < 16777216) (hn : n ≤ 24) : bits .and .i64 (v : Int) (wrap64 (wrap64 (2 ^ n) - 1)) = ((v % 2 ^ n : Nat) : Int) := by
  have h1 := pow_le24 n hn
  have h2 := Nat.two_pow_pos n
  rw [wrap_pow n hn, wrap64_small _ (by omega) (by omega), show ((2 ^ n : Nat) : Int) - 1 = ((2 ^ n - 1 : Nat) : Int) by omega, i64_and_nat _ _ (by omega) (by omega), Nat.and_two_pow_sub_one_eq_mod]
theorem bytes_at (s : ByteArray) (a : Nat) (h : a < s.size) : s.data.toList[a]? = some s[a] := by
  rw [List.getElem?_eq_getElem (by simpa using h)]; rfl
theorem bytes_none (s : ByteArray) (a : Nat) (h : s.size ≤ a) : s.data.toList[a]? = none := List.getElem?_eq_none (by simpa using h)
theorem toNat_255 (b : UInt8) : b = 255 ↔ b.toNat = 255 := by rw [← UInt8.toNat_inj]; rfl
theorem toNat_0 (b : UInt8) : b = 0 ↔ b.toNat = 0 := by rw [← UInt8.toNat_inj]; rfl
theorem ret_ints {a b c d : Int} (h1 : a = c) (h2 : b = d) : Ending.returned (.tuple #[.int .i64 a, .int .i64 b]) = .returned (.tuple #[.int .i64 c, .int .i64 d]) := by rw [h1, h2]

end Go.Proofs.YtfohgocdabgbgaaDoor
