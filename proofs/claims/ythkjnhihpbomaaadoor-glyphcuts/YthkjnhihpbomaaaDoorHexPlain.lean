/- Plain facts on hexadecimal digits; no program in it. -/
import Derived.Lib.UnsafeStr
namespace Go.Proofs.YthkjnhihpbomaaaDoor
open Go.RowKit

/-- A digit's byte. -/
def hexDig (d : Nat) : UInt8 := if d < 10 then (48 + d).toUInt8 else (87 + d).toUInt8
/-- A number's digits, at most so many and one. -/
def hexN : Nat → Nat → List UInt8
  | 0, u => [hexDig (u % 16)]
  | f + 1, u => if u < 16 then [hexDig u] else hexN f (u / 16) ++ [hexDig (u % 16)]
def hexDigits (u : Nat) : List UInt8 := hexN 7 u

theorem hexN_big (f u : Nat) (h : 16 ≤ u) : hexN (f + 1) u = hexN f (u / 16) ++ [hexDig (u % 16)] := by
  simp [hexN, show ¬ u < 16 by omega]
theorem hexN_small (f u : Nat) (h : u < 16) : hexN f u = [hexDig u] := by
  cases f with
  | zero => simp [hexN, Nat.mod_eq_of_lt h]
  | succ f => simp [hexN, h]
theorem hexN_length (f u : Nat) : 1 ≤ (hexN f u).length ∧ (hexN f u).length ≤ f + 1 := by
  induction f generalizing u with
  | zero => simp [hexN]
  | succ f ih =>
    unfold hexN
    split
    · simp
    · have := ih (u / 16)
      simp only [List.length_append, List.length_cons, List.length_nil]
      omega
theorem hexDigits_length (u : Nat) : 1 ≤ (hexDigits u).length ∧ (hexDigits u).length ≤ 8 := hexN_length 7 u

/-- strconv's own constant. -/
def digits36 : ByteArray := ⟨#[48, 49, 50, 51, 52, 53, 54, 55, 56, 57, 97, 98, 99, 100, 101, 102, 103, 104, 105, 106, 107, 108, 109, 110, 111, 112, 113, 114, 115, 116, 117, 118, 119, 120, 121, 122]⟩
theorem digits36_size : digits36.size = 36 := by decide
theorem digits36_at (d : Nat) (h : d < 16) : digits36[d]'(by rw [digits36_size]; omega) = hexDig d := by
  match d, h with
  | 0, _ => rfl | 1, _ => rfl | 2, _ => rfl | 3, _ => rfl | 4, _ => rfl | 5, _ => rfl | 6, _ => rfl | 7, _ => rfl
  | 8, _ => rfl | 9, _ => rfl | 10, _ => rfl | 11, _ => rfl | 12, _ => rfl | 13, _ => rfl | 14, _ => rfl | 15, _ => rfl
  | (k + 16), h => omega
end Go.Proofs.YthkjnhihpbomaaaDoor
