/- Walks of package cursor: sized, number, New, At, Left, Take, Num, Sub, Rest. -/
import Derived.Test.YtfohgocdabgbgaaDoorProg
import Derived.Test.YtfohgocdabgbgaaDoorCPlain
import Derived.Test.YtfohgocdabgbgaaDoorOwn
import Derived.WalkKit
import Derived.BigCall
import Derived.WalkSpells
import Derived.WalkLawsBesides
import Derived.Lib.OwnKind
import Derived.Lib.Hide
import Derived.Laws.BitsAllLaws
import Derived.Deep.QuietTactic
import Derived.BigQuiet
import Derived.Outline
namespace Go.Proofs.YtfohgocdabgbgaaDoor
open Go.RowKit

set_option maxHeartbeats 400000 in
theorem sized_yes (z : Int) (h1 : 1 ≤ z) (h2 : z ≤ 4) (w : World) : Calls Tryd.prog 71 #[.int .i64 z] w fun e w' => e = .returned (.bool true) ∧ w = w' := by
  go_enter Tryd.func71, Tryd.ntmps71
  go_wp2
  go_ret
  exact ⟨rfl, rfl⟩
set_option maxHeartbeats 400000 in
theorem sized_no (z : Int) (h : z < 1 ∨ 4 < z) (w : World) : Calls Tryd.prog 71 #[.int .i64 z] w fun e w' => e = .returned (.bool false) ∧ w = w' := by
  rcases h with h | h
  · go_enter Tryd.func71, Tryd.ntmps71
    go_wp2
    go_ret
    exact ⟨rfl, rfl⟩
  · have h1 : 1 ≤ z := by omega
    have h2 : decide (z ≤ 4) = false := decide_eq_false (by omega)
    go_enter Tryd.func71, Tryd.ntmps71
    go_wp2
    go_ret
    exact ⟨rfl, rfl⟩

set_option maxHeartbeats 400000 in
theorem New_any (s : ByteArray) (w : World) : Calls Tryd.prog 21 #[.string s] w fun e w' => e = .returned (.pointer (some ⟨w.heap.size, 0, none⟩)) ∧ w' = w.alloc (.cells #[.string s, .int .i64 0] 124) := by
  go_enter Tryd.func21, Tryd.ntmps21
  go_wp2
  go_ret
  exact ⟨rfl, rfl⟩

theorem or_256 (a b : Nat) (hb : b < 256) : a * 256 ||| b = a * 256 + b := by
  have := Nat.two_pow_add_eq_or_of_lt (i := 8) (b := b) (by omega) a
  rw [Nat.mul_comm a 256]
  simpa using this.symm
theorem take_snoc (s : ByteArray) (k : Nat) (h : k < s.size) : s.data.toList.take (k + 1) = s.data.toList.take k ++ [s[k]] := by
  rw [List.take_succ_eq_append_getElem (by simpa using h)]; rfl
theorem num_take (s : ByteArray) (k : Nat) (hs : s.size ≤ 4) (h : k < s.size) : num (s.data.toList.take k) 0 < 16777216 := by
  have h1 := num_lt (s.data.toList.take k)
  have h2 : (s.data.toList.take k).length ≤ 3 := by have := List.length_take_le k s.data.toList; omega
  have h3 : 256 ^ (s.data.toList.take k).length ≤ 256 ^ 3 := Nat.pow_le_pow_right (by omega) h2
  omega
theorem num_next (s : ByteArray) (k : Nat) (hs : s.size ≤ 4) (h : k < s.size) :
    bits .or .i64 (wrap64 ((num (s.data.toList.take k) 0 : Nat) * 256)) (wrap64 (s[k].toNat : Nat)) = ((num (s.data.toList.take (k + 1)) 0 : Nat) : Int) := by
  have h1 := num_take s k hs h
  rw [take_snoc s k h, num_snoc]
  generalize num (s.data.toList.take k) 0 = x at h1
  have h2 := s[k].toNat_lt
  generalize s[k].toNat = b at h2
  rw [wrap64_small _ (by omega) (by omega), wrap64_small _ (by omega) (by omega)]
  have := i64_or_nat (x * 256) b (by omega) (by omega)
  rw [or_256 x b (by omega)] at this
  simpa using this

set_option maxHeartbeats 400000 in
theorem number_any (s : ByteArray) (hs : s.size ≤ 4) (w : World) :
    Calls Tryd.prog 81 #[.string s] w fun e w' => e = .returned (.int .i64 (num s.data.toList 0 : Nat)) ∧ w' = w := by
  go_enter Tryd.func81, Tryd.ntmps81
  go_wp2
  go_loop [3, 7] (fun n i => ∃ k : Nat, k ≤ s.size ∧ i = .int .i64 k ∧ n = .int .i64 (num (s.data.toList.take k) 0 : Nat)) (fun _ i => s.size - (intOf i).toNat)
  case atStart => exact ⟨0, Nat.zero_le _, rfl, rfl⟩
  case round =>
    obtain ⟨k, hk, rfl, rfl⟩ := hrel
    by_cases hlt : k < s.size
    · go_wp2
      go_round
      case rel => exact ⟨k + 1, by omega, by go_num, by rw [← num_next s k hs hlt]⟩
      case measure => simp [intOf]; omega
    · go_wp2
      go_ret
      exact ⟨ret_int (by rw [List.take_of_length_le (by simp; omega)]), rfl⟩

/-- A cursor of the text stands in this block; so many bytes were read. -/
def Cur (k : Nat) (s : ByteArray) (a : Nat) (w : World) : Prop := w.heap[k]? = some (.cells #[.string s, .int .i64 a] 124 (0, 0))
theorem Cur.text {k : Nat} {s : ByteArray} {a : Nat} {w : World} (h : Cur k s a w) : w.cell? ⟨k, 0, none⟩ = some (.string s) := by
  unfold Cur at h; simp [World.cell?, h]
theorem Cur.at {k : Nat} {s : ByteArray} {a : Nat} {w : World} (h : Cur k s a w) : w.cell? ⟨k, 1, none⟩ = some (.int .i64 a) := by
  unfold Cur at h; simp [World.cell?, h]
theorem Cur.free {k : Nat} {s : ByteArray} {a : Nat} {w : World} (h : Cur k s a w) : w.frozen? ⟨k, 1, none⟩ = false := by
  unfold Cur at h; simp [World.frozen?, h]
theorem Cur.lt {k : Nat} {s : ByteArray} {a : Nat} {w : World} (h : Cur k s a w) : k < w.heap.size := (Array.getElem?_eq_some_iff.1 h).1
theorem Cur.set {k : Nat} {s : ByteArray} {a : Nat} {w : World} (h : Cur k s a w) (b : Nat) (z : Int) (hz : z = b) : Cur k s b (w.setCell ⟨k, 1, none⟩ (.int .i64 z)) := by
  subst hz
  unfold Cur at h ⊢; simp [World.setCell, Array.getElem?_modify, h]

theorem But.alloc {k : Nat} {a b : World} (h : But k a b) (o : Obj) : But k a (b.alloc o) :=
  ⟨h.os, h.tape, h.output, by have := h.size; simp; omega, fun j hj hl => by
    rw [← h.block j hj hl]
    exact Below.heap_alloc _ _ _ (Nat.lt_of_lt_of_le hl h.size)⟩
set_option maxHeartbeats 400000 in
theorem Left_any (k : Nat) (s : ByteArray) (a : Nat) (w : World) (h : Cur k s a w) (ha : a ≤ s.size) (hs : s.size ≤ maxLen) : Calls Tryd.prog 24 #[.pointer (some ⟨k, 0, none⟩)] w fun e w' => e = .returned (.int .i64 (s.size - a : Nat)) ∧ ∃ n, w' = w.drewN n := by
  have h0 := h.text
  have h1 := h.at
  clear h
  unfold maxLen at hs
  go_enter Tryd.func24, Tryd.ntmps24
  go_wp2
  go_quiet (fail)
  go_wp2
  go_ret
  exact ⟨ret_int (by omega), _, rfl⟩
set_option maxHeartbeats 400000 in
theorem Left_nil (w : World) : Calls Tryd.prog 24 #[.pointer none] w fun e w' => e = .returned (.int .i64 0) ∧ w' = w := by
  go_enter Tryd.func24, Tryd.ntmps24
  go_wp2
  go_ret
  exact ⟨rfl, rfl⟩
end Go.Proofs.YtfohgocdabgbgaaDoor
