/- The document's rune at a place, in plain functions. -/
import Derived.Test.YthkjnhihpbomaaaDoorPlain
namespace Go.Proofs.YthkjnhihpbomaaaDoor
open Go.RowKit

/-- The rune at a place, and how many bytes it has; -1 and 1, if there is no text. -/
def refR (s : ByteArray) (p : Nat) : Int := if bad s p then -1 else ((Utf8.decode s p).1 : Int)
theorem bad_width (s : ByteArray) (p : Nat) (h : bad s p = true) : (Utf8.decode s p).2 = 1 := by
  simp [bad] at h; exact h.2

/-- The same of numbers. -/
def refN (n b0 b1 b2 b3 : Nat) : Int × Nat := if (Lib.decodeN n b0 b1 b2 b3).1 = 65533 ∧ (Lib.decodeN n b0 b1 b2 b3).2 = 1 then (-1, 1) else (((Lib.decodeN n b0 b1 b2 b3).1 : Int), (Lib.decodeN n b0 b1 b2 b3).2)
theorem refR_eq (s : ByteArray) (p : Nat) : (refR s p, (Utf8.decode s p).2) = refN (s.size - p) (s.get! p).toNat (s.get! (p + 1)).toNat (s.get! (p + 2)).toNat (s.get! (p + 3)).toNat := by
  unfold refR bad refN
  rw [← Lib.decode_at]
  by_cases h : (Utf8.decode s p).1 = 65533 ∧ (Utf8.decode s p).2 = 1
  · simp [h.1, h.2]
  · rw [if_neg h, if_neg (by simpa using h)]

set_option maxRecDepth 100000 in
set_option maxHeartbeats 2000000 in
theorem refN_1 (n b0 b1 b2 b3 : Nat) (h : b0 < 128) : refN n b0 b1 b2 b3 = ((b0 : Int), 1) := by
  unfold refN Lib.decodeN
  simp [h]
  omega
theorem decodeN_two (n b0 b1 b2 b3 : Nat) (h : 194 ≤ b0) (h' : b0 < 224) (hn : 1 < n) (h1 : 128 ≤ b1) (h2 : b1 ≤ 191) : Lib.decodeN n b0 b1 b2 b3 = (b0 % 32 * 64 + b1 % 64, 2) := by
  unfold Lib.decodeN
  rw [if_neg (by omega), if_pos (by omega), if_pos (by omega)]
theorem decodeN_none (n b0 b1 b2 b3 : Nat) (h : 128 ≤ b0 ∧ b0 < 194 ∨ 245 ≤ b0) (hb : b0 < 256) : Lib.decodeN n b0 b1 b2 b3 = (65533, 1) := by
  unfold Lib.decodeN
  repeat' split
  all_goals first | rfl | (exfalso; omega)
theorem decodeN_two_no (n b0 b1 b2 b3 : Nat) (h : 194 ≤ b0) (h' : b0 < 224) (hn : ¬ (1 < n ∧ (128 ≤ b1 ∧ b1 ≤ 191))) (hb : b1 < 256) : Lib.decodeN n b0 b1 b2 b3 = (65533, 1) := by
  unfold Lib.decodeN
  repeat' split
  all_goals first | rfl | (exfalso; omega)
theorem decodeN_three_no (n b0 b1 b2 b3 : Nat) (h : 224 ≤ b0) (h' : b0 < 240) (hn : ¬ (2 < n ∧ (128 ≤ b1 ∧ b1 ≤ 191) ∧ (128 ≤ b2 ∧ b2 ≤ 191))) (hb : b1 < 256) (hb2 : b2 < 256) : Lib.decodeN n b0 b1 b2 b3 = (65533, 1) := by
  unfold Lib.decodeN
  repeat' split
  all_goals first | rfl | (exfalso; omega)
theorem decodeN_four_no (n b0 b1 b2 b3 : Nat) (h : 240 ≤ b0) (h' : b0 < 245) (hn : ¬ (3 < n ∧ (128 ≤ b1 ∧ b1 ≤ 191) ∧ (128 ≤ b2 ∧ b2 ≤ 191) ∧ (128 ≤ b3 ∧ b3 ≤ 191))) (hb : b1 < 256) (hb2 : b2 < 256) (hb3 : b3 < 256) : Lib.decodeN n b0 b1 b2 b3 = (65533, 1) := by
  unfold Lib.decodeN
  repeat' split
  all_goals first | rfl | (exfalso; omega)
theorem refN_bad {n b0 b1 b2 b3 : Nat} (h : Lib.decodeN n b0 b1 b2 b3 = (65533, 1)) : refN n b0 b1 b2 b3 = (-1, 1) := by
  unfold refN; rw [h]; simp
theorem refN_two (n b0 b1 b2 b3 : Nat) (h : 194 ≤ b0) (h' : b0 < 224) (hn : 1 < n) (h1 : 128 ≤ b1) (h2 : b1 ≤ 191) : refN n b0 b1 b2 b3 = (((b0 : Int) - 192) * 64 + b1 - 128, 2) := by
  unfold refN
  rw [decodeN_two n b0 b1 b2 b3 h h' hn h1 h2]
  simp
  omega
theorem decodeN_three (n b0 b1 b2 b3 : Nat) (h : 224 ≤ b0) (h' : b0 < 240) (hn : 2 < n) (h1 : 128 ≤ b1) (h2 : b1 ≤ 191) (h3 : 128 ≤ b2) (h4 : b2 ≤ 191) :
    Lib.decodeN n b0 b1 b2 b3 = if b0 % 16 * 4096 + b1 % 64 * 64 + b2 % 64 ≥ 2048 ∧ (b0 % 16 * 4096 + b1 % 64 * 64 + b2 % 64 < 55296 ∨ (57344 ≤ b0 % 16 * 4096 + b1 % 64 * 64 + b2 % 64 ∧ b0 % 16 * 4096 + b1 % 64 * 64 + b2 % 64 ≤ 1114111)) then (b0 % 16 * 4096 + b1 % 64 * 64 + b2 % 64, 3) else (65533, 1) := by
  unfold Lib.decodeN
  rw [if_neg (by omega), if_neg (by omega), if_pos (by omega)]
theorem decodeN_four (n b0 b1 b2 b3 : Nat) (h : 240 ≤ b0) (h' : b0 < 245) (hn : 3 < n) (h1 : 128 ≤ b1) (h2 : b1 ≤ 191) (h3 : 128 ≤ b2) (h4 : b2 ≤ 191) (h5 : 128 ≤ b3) (h6 : b3 ≤ 191) :
    Lib.decodeN n b0 b1 b2 b3 = if b0 % 8 * 262144 + b1 % 64 * 4096 + b2 % 64 * 64 + b3 % 64 ≥ 65536 ∧ (b0 % 8 * 262144 + b1 % 64 * 4096 + b2 % 64 * 64 + b3 % 64 < 55296 ∨ (57344 ≤ b0 % 8 * 262144 + b1 % 64 * 4096 + b2 % 64 * 64 + b3 % 64 ∧ b0 % 8 * 262144 + b1 % 64 * 4096 + b2 % 64 * 64 + b3 % 64 ≤ 1114111)) then (b0 % 8 * 262144 + b1 % 64 * 4096 + b2 % 64 * 64 + b3 % 64, 4) else (65533, 1) := by
  unfold Lib.decodeN
  rw [if_neg (by omega), if_neg (by omega), if_neg (by omega), if_pos (by omega)]
theorem refN_three (n b0 b1 b2 b3 : Nat) (h : 224 ≤ b0) (h' : b0 < 240) (hn : 2 < n) (h1 : 128 ≤ b1) (h2 : b1 ≤ 191) (h3 : 128 ≤ b2) (h4 : b2 ≤ 191) (c : Int) (hc : c = (((b0 : Int) - 224) * 64 + b1 - 128) * 64 + b2 - 128) :
    refN n b0 b1 b2 b3 = if c < 2048 ∨ 1114111 < c ∨ (55296 ≤ c ∧ c ≤ 57343) then (-1, 1) else (c, 3) := by
  unfold refN
  rw [decodeN_three n b0 b1 b2 b3 h h' hn h1 h2 h3 h4]
  split
  · rename_i hx
    rw [if_neg (by simp), if_neg (by omega)]
    apply Prod.ext <;> simp; omega
  · rename_i hx
    rw [if_pos (by simp), if_pos (by omega)]
theorem refN_four (n b0 b1 b2 b3 : Nat) (h : 240 ≤ b0) (h' : b0 < 245) (hn : 3 < n) (h1 : 128 ≤ b1) (h2 : b1 ≤ 191) (h3 : 128 ≤ b2) (h4 : b2 ≤ 191) (h5 : 128 ≤ b3) (h6 : b3 ≤ 191) (c : Int) (hc : c = ((((b0 : Int) - 240) * 64 + b1 - 128) * 64 + b2 - 128) * 64 + b3 - 128) :
    refN n b0 b1 b2 b3 = if c < 65536 ∨ 1114111 < c ∨ (55296 ≤ c ∧ c ≤ 57343) then (-1, 1) else (c, 4) := by
  unfold refN
  rw [decodeN_four n b0 b1 b2 b3 h h' hn h1 h2 h3 h4 h5 h6]
  split
  · rename_i hx
    rw [if_neg (by simp), if_neg (by omega)]
    apply Prod.ext <;> simp; omega
  · rename_i hx
    rw [if_pos (by simp), if_pos (by omega)]
end Go.Proofs.YthkjnhihpbomaaaDoor
