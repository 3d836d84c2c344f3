/- Plain functions: whether bytes are a text, a name, a note. -/
import Derived.Test.YthkjnhihpbomaaaDoorPlain
namespace Go.Proofs.YthkjnhihpbomaaaDoor
open Go.RowKit

def validFrom (s : ByteArray) : Nat → Nat → Bool
  | 0, _ => true
  | n + 1, p => if p < s.size then (!bad s p && validFrom s n (p + (Utf8.decode s p).2)) else true
def valid (s : ByteArray) : Bool := validFrom s s.size 0
theorem validFrom_end (s : ByteArray) (n p : Nat) (h : ¬ p < s.size) : validFrom s n p = true := by
  cases n with
  | zero => rfl
  | succ n => simp [validFrom, h]
theorem validFrom_on (s : ByteArray) (n p : Nat) (h : p < s.size) : validFrom s (n + 1) p = (!bad s p && validFrom s n (p + (Utf8.decode s p).2)) := by
  simp [validFrom, h]

/-- May a rune stand in a name? -/
def nameR (r : Nat) : Bool := decide ((97 ≤ r ∧ r ≤ 122) ∨ (65 ≤ r ∧ r ≤ 90) ∨ (48 ≤ r ∧ r ≤ 57) ∨ r = 45 ∨ r = 95 ∨ r = 46 ∨ (161 ≤ r ∧ ¬ (8192 ≤ r ∧ r ≤ 8303) ∧ r ≠ 65279 ∧ ¬ (65533 ≤ r ∧ r ≤ 65535)))
def nameFrom (s : ByteArray) : Nat → Nat → Nat → Bool
  | 0, _, k => decide (1 ≤ k ∧ k ≤ 24)
  | n + 1, p, k => if p < s.size then (nameR (Utf8.decode s p).1 && nameFrom s n (p + (Utf8.decode s p).2) (k + 1)) else decide (1 ≤ k ∧ k ≤ 24)
def name (s : ByteArray) : Bool := nameFrom s s.size 0 0
theorem nameFrom_end (s : ByteArray) (n p k : Nat) (h : ¬ p < s.size) : nameFrom s n p k = decide (1 ≤ k ∧ k ≤ 24) := by
  cases n with
  | zero => rfl
  | succ n => simp [nameFrom, h]
theorem nameFrom_on (s : ByteArray) (n p k : Nat) (h : p < s.size) : nameFrom s (n + 1) p k = (nameR (Utf8.decode s p).1 && nameFrom s n (p + (Utf8.decode s p).2) (k + 1)) := by
  simp [nameFrom, h]
theorem nameFrom_big (s : ByteArray) (n p k : Nat) (h : 24 < k) : nameFrom s n p k = false := by
  induction n generalizing p k with
  | zero => simp [nameFrom]; omega
  | succ n ih =>
    rw [nameFrom]
    split
    · rw [ih _ _ (by omega)]; simp
    · simp; omega

/-- May a rune stand in a note? -/
def noteR (r : Nat) : Bool := decide (r = 10 ∨ (32 ≤ r ∧ r < 127) ∨ 159 < r)
def noteAt (s : ByteArray) (p : Nat) : Bool := !bad s p && noteR (Utf8.decode s p).1
/-- The place of the first fault, or the length. -/
def noteFrom (s : ByteArray) : Nat → Nat → Nat
  | 0, p => p
  | n + 1, p => if p < s.size then (if noteAt s p then noteFrom s n (p + (Utf8.decode s p).2) else p) else p
theorem noteFrom_end (s : ByteArray) (n p : Nat) (h : ¬ p < s.size) : noteFrom s n p = p := by
  cases n with
  | zero => rfl
  | succ n => simp [noteFrom, h]
theorem noteFrom_on (s : ByteArray) (n p : Nat) (h : p < s.size) (hn : noteAt s p = true) : noteFrom s (n + 1) p = noteFrom s n (p + (Utf8.decode s p).2) := by
  simp [noteFrom, h, hn]
theorem noteFrom_off (s : ByteArray) (n p : Nat) (h : p < s.size) (hn : noteAt s p = false) : noteFrom s (n + 1) p = p := by
  simp [noteFrom, h, hn]
def notePlace (s : ByteArray) : Int := if noteFrom s s.size 0 < s.size then (noteFrom s s.size 0 : Int) else if 1000 < s.size then 1000 else 0
def noteErr (s : ByteArray) : Int := if noteFrom s s.size 0 < s.size then 16 else if 1000 < s.size then 11 else 0
end Go.Proofs.YthkjnhihpbomaaaDoor
