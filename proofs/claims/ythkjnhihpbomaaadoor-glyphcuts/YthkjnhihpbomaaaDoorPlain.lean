/- What the document says of texts, in plain functions over the runes of bytes; no program in it. -/
import Derived.Test.YthkjnhihpbomaaaDoorHexPlain
import Derived.Lib.DecodeN
import Derived.Lib.RuneBytes
import Derived.Laws.RangeAny
import Derived.Shelf.Unicode.DecodeSlow
namespace Go.Proofs.YthkjnhihpbomaaaDoor
open Go.RowKit

/-- No text stands at this place. -/
def bad (s : ByteArray) (p : Nat) : Bool := (Utf8.decode s p).1 == 65533 && (Utf8.decode s p).2 == 1

theorem width_pos (s : ByteArray) (pos : Nat) (h : pos < s.size) : 1 ≤ (Utf8.decode s pos).2 := by
  by_cases ha : (s[pos]'h).toNat < 128
  · rw [decode_ascii s pos h ha]; exact Nat.le_refl _
  · exact (decode_high s pos h (by omega)).2

theorem rune_le (s : ByteArray) (pos : Nat) : (Utf8.decode s pos).1 ≤ 1114111 := by
  rw [Lib.decode_at]; unfold Lib.decodeN
  repeat' split
  all_goals simp only []
  all_goals omega

theorem width_le (s : ByteArray) (pos : Nat) (h : pos < s.size) : pos + (Utf8.decode s pos).2 ≤ s.size := by
  rw [Lib.decode_at]; unfold Lib.decodeN
  repeat' split
  all_goals simp only []
  all_goals omega

theorem get_extract (s : ByteArray) (pos j : Nat) : (s.extract pos s.size).get! j = s.get! (pos + j) := by
  have e : ∀ (a : ByteArray) (i : Nat), a.get! i = a.data.toList.getD i default := by
    intro a i
    simp [ByteArray.get!, List.getD, getElem!_def]
    cases a.data[i]? <;> rfl
  rw [e, e, Lib.extract_data, List.take_of_length_le (by rw [List.length_drop, ← Lib.size_eq]; omega)]
  simp [List.getD, List.getElem?_drop]

theorem decode_tail (s : ByteArray) (pos : Nat) (h : pos < s.size) : Lib.decodeGo (s.extract pos s.size) = Utf8.decode s pos := by
  have hz : (s.extract pos s.size).size = s.size - pos := by simp [ByteArray.size_extract]
  unfold Lib.decodeGo
  rw [if_neg (by omega), Lib.decode_at, Lib.decode_at s pos, hz, get_extract, get_extract, get_extract, get_extract]
  rfl

/-- A rune's fold. -/
def foldR (r : Nat) : Nat :=
  if r = 215 ∨ r = 930 then r
  else if (65 ≤ r ∧ r ≤ 90) ∨ (192 ≤ r ∧ r ≤ 222) ∨ (913 ≤ r ∧ r ≤ 937) ∨ (1040 ≤ r ∧ r ≤ 1071) then r + 32
  else if 1024 ≤ r ∧ r ≤ 1039 then r + 80
  else r
/-- How a rune is printed. -/
def quoteR (r : Nat) : List UInt8 :=
  if r = 34 ∨ r = 92 then [92, r.toUInt8]
  else if r = 10 then [92, 110]
  else if 32 ≤ r ∧ r ≤ 126 then [r.toUInt8]
  else [92, 117, 123] ++ (hexDigits r ++ [125])
/-- How a byte that is no text is printed. -/
def quoteB (c : UInt8) : List UInt8 := [92, 120] ++ hexDigits c.toNat

def quoteItem (s : ByteArray) (p : Nat) : List UInt8 := if bad s p then quoteB (s.get! p) else quoteR (Utf8.decode s p).1
def foldItem (s : ByteArray) (p : Nat) : List UInt8 := if bad s p then [s.get! p] else Lib.encodeRune (foldR (Utf8.decode s p).1 : Nat)

/-- What is made of each rune from a place on, one behind the other. -/
def textFrom (f : Nat → List UInt8) (s : ByteArray) : Nat → Nat → List UInt8
  | 0, _ => []
  | n + 1, p => if p < s.size then f p ++ textFrom f s n (p + (Utf8.decode s p).2) else []
theorem textFrom_end (f : Nat → List UInt8) (s : ByteArray) (n p : Nat) (h : ¬ p < s.size) : textFrom f s n p = [] := by
  cases n with
  | zero => rfl
  | succ n => simp [textFrom, h]
theorem textFrom_on (f : Nat → List UInt8) (s : ByteArray) (n p : Nat) (h : p < s.size) : textFrom f s (n + 1) p = f p ++ textFrom f s n (p + (Utf8.decode s p).2) := by
  simp [textFrom, h]

def quote (s : ByteArray) : List UInt8 := [34] ++ (textFrom (quoteItem s) s s.size 0 ++ [34])
def fold (s : ByteArray) : List UInt8 := textFrom (foldItem s) s s.size 0

theorem quoteR_length (r : Nat) : (quoteR r).length ≤ 12 := by
  have := (hexDigits_length r).2
  unfold quoteR
  repeat' split
  all_goals simp
  omega
theorem quoteItem_length (s : ByteArray) (p : Nat) : (quoteItem s p).length ≤ 12 := by
  unfold quoteItem quoteB
  split
  · have := (hexDigits_length (s.get! p).toNat).2
    simp; omega
  · exact quoteR_length _
theorem foldItem_length (s : ByteArray) (p : Nat) : (foldItem s p).length ≤ 4 := by
  unfold foldItem
  split
  · simp
  · simp only [Lib.encodeRune, List.length_map]
    exact (Lib.encodeRuneZ_length _).2
end Go.Proofs.YthkjnhihpbomaaaDoor
