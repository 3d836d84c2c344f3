/- Plain functions: how many runes; where a text is cut; whether it is a text, a name, a note. -/
import Derived.Test.YthkjnhihpbomaaaDoorPlain
namespace Go.Proofs.YthkjnhihpbomaaaDoor
open Go.RowKit

def cntFrom (s : ByteArray) : Nat → Nat → Nat
  | 0, _ => 0
  | n + 1, p => if p < s.size then cntFrom s n (p + (Utf8.decode s p).2) + 1 else 0
def count (s : ByteArray) : Nat := cntFrom s s.size 0
theorem cntFrom_end (s : ByteArray) (n p : Nat) (h : ¬ p < s.size) : cntFrom s n p = 0 := by
  cases n with
  | zero => rfl
  | succ n => simp [cntFrom, h]
theorem cntFrom_on (s : ByteArray) (n p : Nat) (h : p < s.size) : cntFrom s (n + 1) p = cntFrom s n (p + (Utf8.decode s p).2) + 1 := by
  simp [cntFrom, h]

/-- The last end of a rune, from a place on, that is at most n. -/
def cutFrom (s : ByteArray) (n : Int) : Nat → Nat → Nat
  | 0, p => p
  | f + 1, p => if p < s.size then (if ((p + (Utf8.decode s p).2 : Nat) : Int) ≤ n then cutFrom s n f (p + (Utf8.decode s p).2) else p) else p
def cutEnd (s : ByteArray) (n : Int) : Nat := cutFrom s n s.size 0
theorem cutFrom_end (s : ByteArray) (n : Int) (f p : Nat) (h : ¬ p < s.size) : cutFrom s n f p = p := by
  cases f with
  | zero => rfl
  | succ f => simp [cutFrom, h]
theorem cutFrom_on (s : ByteArray) (n : Int) (f p : Nat) (h : p < s.size) (hn : ((p + (Utf8.decode s p).2 : Nat) : Int) ≤ n) : cutFrom s n (f + 1) p = cutFrom s n f (p + (Utf8.decode s p).2) := by
  rw [cutFrom, if_pos h, if_pos hn]
theorem cutFrom_off (s : ByteArray) (n : Int) (f p : Nat) (hn : ¬ ((p + (Utf8.decode s p).2 : Nat) : Int) ≤ n) : cutFrom s n (f + 1) p = p := by
  rw [cutFrom, if_neg hn]; split <;> rfl
theorem cutFrom_le (s : ByteArray) (n : Int) (f p : Nat) (hp : p ≤ s.size) : cutFrom s n f p ≤ s.size := by
  induction f generalizing p with
  | zero => exact hp
  | succ f ih =>
    rw [cutFrom]
    split
    · rename_i h
      split
      · exact ih _ (width_le s p h)
      · exact hp
    · exact hp
theorem cutEnd_le (s : ByteArray) (n : Int) : cutEnd s n ≤ s.size := cutFrom_le s n _ _ (Nat.zero_le _)
/-- Where the whole fits nothing is cut off. -/
theorem cutFrom_all (s : ByteArray) (n : Int) (f p : Nat) (hf : s.size ≤ p + f) (hn : (s.size : Int) ≤ n) (hp : p ≤ s.size) : cutFrom s n f p = s.size := by
  induction f generalizing p with
  | zero => simp [cutFrom]; omega
  | succ f ih =>
    rw [cutFrom]
    split
    · rename_i h
      have h1 := width_le s p h
      have h2 := width_pos s p h
      rw [if_pos (by omega)]
      exact ih _ (by omega) h1
    · omega
theorem cutEnd_all (s : ByteArray) (n : Int) (hn : (s.size : Int) ≤ n) : cutEnd s n = s.size := cutFrom_all s n _ _ (by omega) hn (by omega)
def cut (s : ByteArray) (n : Int) : ByteArray := s.extract 0 (cutEnd s n)
theorem cut_all (s : ByteArray) (n : Int) (hn : (s.size : Int) ≤ n) : cut s n = s := by
  unfold cut
  rw [cutEnd_all s n hn]
  exact ByteArray.extract_zero_size
end Go.Proofs.YthkjnhihpbomaaaDoor
