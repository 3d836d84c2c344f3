/- Walks of package cursor: sized, number, New, At, Left, Take, Num, Sub, Rest. -/
import Derived.Test.YtdfanplihheofaaProg
import Derived.Test.YtdfanplihheofaaPlain
import Derived.WalkKit
import Derived.BigCall
import Derived.WalkSpells
import Derived.WalkLawsBesides
import Derived.Lib.OwnKind
import Derived.Lib.Hide
import Derived.Laws.BitsAllLaws
import Derived.Deep.QuietTactic
import Derived.BigQuiet
import Derived.Outline
namespace Go.Proofs.Ytdfanplihheofaa
open Go.RowKit

theorem ret_bool {a b : Bool} (h : a = b) : Ending.returned (.bool a) = .returned (.bool b) := by rw [h]
theorem ret_int {k : IntKind} {a b : Int} (h : a = b) : Ending.returned (.int k a) = .returned (.int k b) := by rw [h]

set_option maxHeartbeats 400000 in
theorem sized_yes (z : Int) (h1 : 1 ≤ z) (h2 : z ≤ 4) (w : World) : Calls Try.prog 21 #[.int .i64 z] w fun e w' => e = .returned (.bool true) ∧ w = w' := by
  go_enter Try.func21, Try.ntmps21
  go_wp2
  go_ret
  exact ⟨rfl, rfl⟩
set_option maxHeartbeats 400000 in
theorem sized_no (z : Int) (h : z < 1 ∨ 4 < z) (w : World) : Calls Try.prog 21 #[.int .i64 z] w fun e w' => e = .returned (.bool false) ∧ w = w' := by
  rcases h with h | h
  · go_enter Try.func21, Try.ntmps21
    go_wp2
    go_ret
    exact ⟨rfl, rfl⟩
  · have h1 : 1 ≤ z := by omega
    have h2 : decide (z ≤ 4) = false := decide_eq_false (by omega)
    go_enter Try.func21, Try.ntmps21
    go_wp2
    go_ret
    exact ⟨rfl, rfl⟩

set_option maxHeartbeats 400000 in
theorem New_any (s : ByteArray) (w : World) : Calls Try.prog 10 #[.string s] w fun e w' => e = .returned (.pointer (some ⟨w.heap.size, 0, none⟩)) ∧ w' = w.alloc (.cells #[.string s, .int .i64 0] 55) := by
  go_enter Try.func10, Try.ntmps10
  go_wp2
  go_ret
  exact ⟨rfl, rfl⟩

theorem ofInt_64 (a : Nat) (ha : a < 18446744073709551616) : (BitVec.ofInt 64 (a : Int)).toNat = a := by
  simp; omega
theorem i64_or_nat (a b : Nat) (ha : a < 9223372036854775808) (hb : b < 9223372036854775808) : bits .or .i64 (a : Int) (b : Int) = ((a ||| b : Nat) : Int) := by
  have hx : a ||| b < 2 ^ 63 := Nat.or_lt_two_pow (by omega) (by omega)
  show IntKind.i64.wrap ((BitVec.ofInt 64 (a : Int) ||| BitVec.ofInt 64 (b : Int)).toNat : Int) = _
  rw [BitVec.toNat_or, ofInt_64 a (by omega), ofInt_64 b (by omega)]
  generalize a ||| b = x at hx
  simp only [IntKind.wrap, IntKind.bits, IntKind.signed]
  simp
  omega
theorem or_256 (a b : Nat) (hb : b < 256) : a * 256 ||| b = a * 256 + b := by
  have := Nat.two_pow_add_eq_or_of_lt (i := 8) (b := b) (by omega) a
  rw [Nat.mul_comm a 256]
  simpa using this.symm
theorem wrap64_small (z : Int) (h0 : 0 ≤ z) (h1 : z < 9223372036854775808) : wrap64 z = z := by
  unfold wrap64; omega

theorem take_snoc (s : ByteArray) (k : Nat) (h : k < s.size) : s.data.toList.take (k + 1) = s.data.toList.take k ++ [s[k]] := by
  rw [List.take_succ_eq_append_getElem (by simpa using h)]; rfl
theorem num_take (s : ByteArray) (k : Nat) (hs : s.size ≤ 4) (h : k < s.size) : num (s.data.toList.take k) 0 < 16777216 := by
  have h1 := num_lt (s.data.toList.take k)
  have h2 : (s.data.toList.take k).length ≤ 3 := by have := List.length_take_le k s.data.toList; omega
  have h3 : 256 ^ (s.data.toList.take k).length ≤ 256 ^ 3 := Nat.pow_le_pow_right (by omega) h2
  omega
theorem num_next (s : ByteArray) (k : Nat) (hs : s.size ≤ 4) (h : k < s.size) :
    bits .or .i64 (wrap64 ((num (s.data.toList.take k) 0 : Nat) * 256)) (wrap64 (s[k].toNat : Nat)) = ((num (s.data.toList.take (k + 1)) 0 : Nat) : Int) := by
  have h1 := num_take s k hs h
  rw [take_snoc s k h, num_snoc]
  generalize num (s.data.toList.take k) 0 = x at h1
  have h2 := s[k].toNat_lt
  generalize s[k].toNat = b at h2
  rw [wrap64_small _ (by omega) (by omega), wrap64_small _ (by omega) (by omega)]
  have := i64_or_nat (x * 256) b (by omega) (by omega)
  rw [or_256 x b (by omega)] at this
  simpa using this

set_option maxHeartbeats 400000 in
theorem number_any (s : ByteArray) (hs : s.size ≤ 4) (w : World) :
    Calls Try.prog 22 #[.string s] w fun e w' => e = .returned (.int .i64 (num s.data.toList 0 : Nat)) ∧ w' = w := by
  go_enter Try.func22, Try.ntmps22
  go_wp2
  go_loop [3, 7] (fun n i => ∃ k : Nat, k ≤ s.size ∧ i = .int .i64 k ∧ n = .int .i64 (num (s.data.toList.take k) 0 : Nat)) (fun _ i => s.size - (intOf i).toNat)
  case atStart => exact ⟨0, Nat.zero_le _, rfl, rfl⟩
  case round =>
    obtain ⟨k, hk, rfl, rfl⟩ := hrel
    by_cases hlt : k < s.size
    · go_wp2
      go_round
      case rel => exact ⟨k + 1, by omega, by go_num, by rw [← num_next s k hs hlt]⟩
      case measure => simp [intOf]; omega
    · go_wp2
      go_ret
      exact ⟨ret_int (by rw [List.take_of_length_le (by simp; omega)]), rfl⟩

set_option maxHeartbeats 400000 in
theorem rNum_any (s : ByteArray) (hs : s.size ≤ 4) (w : World) :
    Calls Try.prog 15 #[.string s] w fun e w' => e = .returned (.int .i64 (num s.data.toList 0 : Nat)) ∧ w' = w := by
  go_enter Try.func15, Try.ntmps15
  go_wp2
  go_loop [3, 4] (fun n i => ∃ k : Nat, k ≤ s.size ∧ i = .int .i64 k ∧ n = .int .i64 (num (s.data.toList.take k) 0 : Nat)) (fun _ i => s.size - (intOf i).toNat)
  case atStart => exact ⟨0, Nat.zero_le _, rfl, rfl⟩
  case round =>
    obtain ⟨k, hk, rfl, rfl⟩ := hrel
    by_cases hlt : k < s.size
    · have h1 := num_take s k hs hlt
      have h2 := s[k].toNat_lt
      have H := Lib.hid (show num (s.data.toList.take (k + 1)) 0 = num (s.data.toList.take k) 0 * 256 + s[k].toNat by rw [take_snoc s k hlt, num_snoc])
      generalize num (s.data.toList.take k) 0 = x at h1 H
      go_wp2
      go_round
      case rel => exact ⟨k + 1, by omega, by go_num, by rw [H.out]; go_num⟩
      case measure => simp [intOf]; omega
    · go_wp2
      go_ret
      exact ⟨ret_int (by rw [List.take_of_length_le (by simp; omega)]), rfl⟩

/-- A cursor of the text stands in this block; so many bytes were read. -/
def Cur (k : Nat) (s : ByteArray) (a : Nat) (w : World) : Prop := w.heap[k]? = some (.cells #[.string s, .int .i64 a] 55 (0, 0))
theorem Cur.text {k : Nat} {s : ByteArray} {a : Nat} {w : World} (h : Cur k s a w) : w.cell? ⟨k, 0, none⟩ = some (.string s) := by
  unfold Cur at h; simp [World.cell?, h]
theorem Cur.at {k : Nat} {s : ByteArray} {a : Nat} {w : World} (h : Cur k s a w) : w.cell? ⟨k, 1, none⟩ = some (.int .i64 a) := by
  unfold Cur at h; simp [World.cell?, h]
theorem Cur.free {k : Nat} {s : ByteArray} {a : Nat} {w : World} (h : Cur k s a w) : w.frozen? ⟨k, 1, none⟩ = false := by
  unfold Cur at h; simp [World.frozen?, h]
theorem Cur.lt {k : Nat} {s : ByteArray} {a : Nat} {w : World} (h : Cur k s a w) : k < w.heap.size := (Array.getElem?_eq_some_iff.1 h).1
theorem Cur.set {k : Nat} {s : ByteArray} {a : Nat} {w : World} (h : Cur k s a w) (b : Nat) (z : Int) (hz : z = b) : Cur k s b (w.setCell ⟨k, 1, none⟩ (.int .i64 z)) := by
  subst hz
  unfold Cur at h ⊢; simp [World.setCell, Array.getElem?_modify, h]

/-- All blocks but one are as they were. -/
structure But (k : Nat) (w w' : World) : Prop where
  os : w'.os = w.os
  tape : w'.tape = w.tape
  output : w'.output = w.output
  size : w.heap.size ≤ w'.heap.size
  block : ∀ j, j ≠ k → j < w.heap.size → w'.heap[j]? = w.heap[j]?
theorem But.refl (k : Nat) (w : World) : But k w w := ⟨rfl, rfl, rfl, Nat.le_refl _, fun _ _ _ => rfl⟩
theorem But.trans {k : Nat} {a b c : World} (h : But k a b) (g : But k b c) : But k a c :=
  ⟨g.os.trans h.os, g.tape.trans h.tape, g.output.trans h.output, Nat.le_trans h.size g.size, fun j hj hl => (g.block j hj (Nat.lt_of_lt_of_le hl h.size)).trans (h.block j hj hl)⟩
theorem But.drewN {k : Nat} {a b : World} (h : But k a b) (n : Nat) : But k a (b.drewN n) := ⟨h.os, h.tape, h.output, h.size, h.block⟩
theorem But.alloc {k : Nat} {a b : World} (h : But k a b) (o : Obj) : But k a (b.alloc o) :=
  ⟨h.os, h.tape, h.output, by have := h.size; simp; omega, fun j hj hl => by
    rw [← h.block j hj hl]
    exact Below.heap_alloc _ _ _ (Nat.lt_of_lt_of_le hl h.size)⟩
theorem But.setCell {k : Nat} {a b : World} (h : But k a b) (o : Nat) (v : Value) : But k a (b.setCell ⟨k, o, none⟩ v) :=
  ⟨h.os, h.tape, h.output, by simpa using h.size, fun j hj hl => by
    rw [← h.block j hj hl]
    simp [World.setCell, Array.getElem?_modify, hj.symm]⟩
theorem But.below {k B : Nat} {w w' : World} (h : But k w w') (hk : B ≤ k) (hB : B ≤ w.heap.size) : Below B w w' :=
  ⟨h.os, h.tape, h.output, h.size, fun j hj => h.block j (by omega) (by omega)⟩
theorem But.of_below {k : Nat} {w w' : World} (h : Below w.heap.size w w') : But k w w' :=
  ⟨h.os, h.tape, h.output, h.size, fun j _ hl => h.block j hl⟩

set_option maxHeartbeats 400000 in
theorem At_any (k : Nat) (s : ByteArray) (a : Nat) (w : World) (h : Cur k s a w) : Calls Try.prog 12 #[.pointer (some ⟨k, 0, none⟩)] w fun e w' => e = .returned (.int .i64 a) ∧ w' = w := by
  have h1 := h.at
  clear h
  go_enter Try.func12, Try.ntmps12
  go_wp2
  go_ret
  exact ⟨rfl, rfl⟩
set_option maxHeartbeats 400000 in
theorem At_nil (w : World) : Calls Try.prog 12 #[.pointer none] w fun e w' => e = .returned (.int .i64 0) ∧ w' = w := by
  go_enter Try.func12, Try.ntmps12
  go_wp2
  go_ret
  exact ⟨rfl, rfl⟩
set_option maxHeartbeats 400000 in
theorem Left_any (k : Nat) (s : ByteArray) (a : Nat) (w : World) (h : Cur k s a w) (ha : a ≤ s.size) (hs : s.size ≤ maxLen) : Calls Try.prog 13 #[.pointer (some ⟨k, 0, none⟩)] w fun e w' => e = .returned (.int .i64 (s.size - a : Nat)) ∧ ∃ n, w' = w.drewN n := by
  have h0 := h.text
  have h1 := h.at
  clear h
  unfold maxLen at hs
  go_enter Try.func13, Try.ntmps13
  go_wp2
  go_quiet (fail)
  go_wp2
  go_ret
  exact ⟨ret_int (by omega), _, rfl⟩
set_option maxHeartbeats 400000 in
theorem Left_nil (w : World) : Calls Try.prog 13 #[.pointer none] w fun e w' => e = .returned (.int .i64 0) ∧ w' = w := by
  go_enter Try.func13, Try.ntmps13
  go_wp2
  go_ret
  exact ⟨rfl, rfl⟩
end Go.Proofs.Ytdfanplihheofaa
