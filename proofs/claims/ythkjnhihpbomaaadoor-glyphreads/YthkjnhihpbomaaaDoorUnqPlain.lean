/- What the document says of quoted texts, read, in plain functions. -/
import Derived.Test.YthkjnhihpbomaaaDoorPlain
namespace Go.Proofs.YthkjnhihpbomaaaDoor
open Go.RowKit

/-- A byte's number. -/
def byt (s : ByteArray) (p : Nat) : Nat := (s.get! p).toNat
theorem byt_lt (s : ByteArray) (p : Nat) : byt s p < 256 := (s.get! p).toNat_lt
/-- Is it a small hexadecimal digit, and what does it stand for? -/
def digOk (c : Nat) : Bool := decide ((48 ≤ c ∧ c ≤ 57) ∨ (97 ≤ c ∧ c ≤ 102))
def digV (c : Nat) : Nat := if 48 ≤ c ∧ c ≤ 57 then c - 48 else if 97 ≤ c ∧ c ≤ 102 then c - 87 else 0
theorem digV_lt (c : Nat) : digV c < 16 := by unfold digV; repeat' split
                                              all_goals omega
/-- At most so many digits from a place on: the number, and the place behind. -/
def num (s : ByteArray) : Nat → Nat → Nat → Nat × Nat
  | 0, p, n => (n, p)
  | f + 1, p, n => if p < s.size ∧ digOk (byt s p) = true then (if n * 16 + digV (byt s p) = 0 then (0, p + 1) else num s f (p + 1) (n * 16 + digV (byt s p))) else (n, p)
/-- Two digits of a byte: the byte, the place behind, the error; or the error's place. -/
def escX (s : ByteArray) (p : Nat) : List UInt8 × Nat × Nat :=
  if ¬ p < s.size then ([], p, 2) else if digOk (byt s p) = false then ([], p, 16)
  else if ¬ p + 1 < s.size then ([], p + 1, 2) else if digOk (byt s (p + 1)) = false then ([], p + 1, 16)
  else ([(digV (byt s p) * 16 + digV (byt s (p + 1))).toUInt8], p + 2, 0)
/-- A rune's number within its braces. -/
def escU (s : ByteArray) (p : Nat) : List UInt8 × Nat × Nat :=
  if ¬ p < s.size then ([], p, 2) else if byt s p ≠ 123 then ([], p, 16)
  else if ¬ (num s 6 (p + 1) 0).2 < s.size then ([], (num s 6 (p + 1) 0).2, 2)
  else if byt s (num s 6 (p + 1) 0).2 ≠ 125 then ([], (num s 6 (p + 1) 0).2, 16)
  else if (num s 6 (p + 1) 0).2 = p + 1 ∨ 1114111 < (num s 6 (p + 1) 0).1 ∨ (55296 ≤ (num s 6 (p + 1) 0).1 ∧ (num s 6 (p + 1) 0).1 ≤ 57343) then ([], (num s 6 (p + 1) 0).2, 16)
  else (Lib.encodeRune ((num s 6 (p + 1) 0).1 : Nat), (num s 6 (p + 1) 0).2 + 1, 0)
/-- What stands behind a backslash. -/
def esc (s : ByteArray) (p : Nat) : List UInt8 × Nat × Nat :=
  if ¬ p < s.size then ([], p, 2)
  else if byt s p = 34 ∨ byt s p = 92 then ([s.get! p], p + 1, 0)
  else if byt s p = 110 then ([10], p + 1, 0)
  else if byt s p = 120 then escX s (p + 1)
  else if byt s p = 117 then escU s (p + 1)
  else ([], p, 16)
/-- From a place within the quotation marks on. -/
def unqFrom (s : ByteArray) : Nat → Nat → List UInt8 → List UInt8 × Nat × Nat
  | 0, p, _ => ([], p, 2)
  | f + 1, p, acc =>
    if ¬ p < s.size then ([], p, 2)
    else if byt s p = 34 then (acc, p + 1, 0)
    else if byt s p = 92 then (if (esc s (p + 1)).2.2 = 0 then unqFrom s f (esc s (p + 1)).2.1 (acc ++ (esc s (p + 1)).1) else ([], (esc s (p + 1)).2.1, (esc s (p + 1)).2.2))
    else if 32 ≤ byt s p ∧ byt s p ≤ 126 then unqFrom s f (p + 1) (acc ++ [s.get! p])
    else ([], p, 16)
def unq (s : ByteArray) : List UInt8 × Nat × Nat :=
  if ¬ 0 < s.size then ([], 0, 2) else if byt s 0 ≠ 34 then ([], 0, 16) else unqFrom s s.size 1 []

theorem num_place (s : ByteArray) (f p n : Nat) (hp : p ≤ s.size) : p ≤ (num s f p n).2 ∧ (num s f p n).2 ≤ s.size ∧ (num s f p n).2 ≤ p + f := by
  induction f generalizing p n with
  | zero => simp [num, hp]
  | succ f ih =>
    rw [num]
    split
    · rename_i h
      split
      · simp; omega
      · have := ih (p + 1) (n * 16 + digV (byt s p)) (by omega)
        omega
    · simp; omega
theorem num_lt (s : ByteArray) (f p n : Nat) : (num s f p n).1 < (n + 1) * 16 ^ f := by
  induction f generalizing p n with
  | zero => simp [num]
  | succ f ih =>
    rw [num]
    have hd := digV_lt (byt s p)
    have hpos : 0 < 16 ^ f := Nat.pow_pos (by omega)
    split
    · split
      · show 0 < _
        exact Nat.mul_pos (by omega) (Nat.pow_pos (by omega))
      · have h1 := ih (p + 1) (n * 16 + digV (byt s p))
        have h2 : (n * 16 + digV (byt s p) + 1) * 16 ^ f ≤ ((n + 1) * 16) * 16 ^ f := Nat.mul_le_mul_right _ (by omega)
        rw [Nat.pow_succ, Nat.mul_comm (16 ^ f) 16, ← Nat.mul_assoc]
        omega
    · show n < _
      have h2 : (n + 1) * 1 ≤ (n + 1) * 16 ^ (f + 1) := Nat.mul_le_mul_left _ (Nat.pow_pos (by omega))
      omega
theorem esc_place (s : ByteArray) (p : Nat) (hp : p ≤ s.size) : p ≤ (esc s p).2.1 ∧ (esc s p).2.1 ≤ s.size := by
  unfold esc escX escU
  have hn := num_place s 6 (p + 1 + 1) 0
  repeat' split
  all_goals simp only []
  all_goals first | omega | (have := hn (by omega); omega)
theorem esc_len (s : ByteArray) (p : Nat) : (esc s p).1.length ≤ 4 := by
  unfold esc escX escU
  repeat' split
  all_goals simp
  simp only [Lib.encodeRune, List.length_map]
  exact (Lib.encodeRuneZ_length _).2
end Go.Proofs.YthkjnhihpbomaaaDoor
