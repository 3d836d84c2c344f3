/- Walks: Put, and the document's Put. -/
import Derived.Test.YtfohgocdabgbgaaDoorCWalk
import Derived.Laws.IdiomStrings
import Derived.Laws.BytesArg
namespace Go.Proofs.YtfohgocdabgbgaaDoor
open Go.RowKit

theorem pow_8 (m : Nat) : (2 : Nat) ^ (8 * m) = 256 ^ m := by rw [Nat.pow_mul]
theorem pow_8z (m : Nat) : (2 : Int) ^ (8 * m) = ((256 ^ m : Nat) : Int) := by rw [← pow_8]; simp

/-- A row of bytes of the call's own. -/
def Row (g m : Nat) (l : List UInt8) (w : World) : Prop := w.ownsRow g 5 1 (.slice (some ⟨g, 0, none⟩) m m) m (Lib.byteCells l)
theorem row_conv {g m : Nat} {l : List UInt8} {w : World} (hl : l.length = m) (h : Row g m l w) : (convert 31 9 (.slice (some ⟨g, 0, none⟩) m m)).run Tryd.prog w = .ok (.string ⟨l.toArray⟩) w := by
  subst hl
  refine run_convert_bytes_back w 31 9 5 ⟨g, 0, none⟩ l.length l Tryd.underlying31 Tryd.underlying5 Tryd.underlying9 fun j hj => ?_
  refine World.ownsRow.cells h (g := g) rfl j _ ?_
  simp [Lib.byteCells, hj]
theorem byteCells_set (l : List UInt8) (j : Nat) (b : UInt8) (z : Int) (hz : z = b.toNat) : (Lib.byteCells l).set j (.int .u8 z) = Lib.byteCells (l.set j b) := by
  subst hz
  simp [Lib.byteCells, List.map_set]
theorem be_step (n m k : Nat) (hk : k < m) : (List.replicate (m - k) 0 ++ be n k).set (m - 1 - k) (n / 256 ^ k % 256).toUInt8 = List.replicate (m - (k + 1)) 0 ++ be n (k + 1) := by
  rw [show m - k = (m - (k + 1)) + 1 by omega, List.replicate_succ', List.append_assoc, List.set_append_right _ _ (by simp; omega)]
  simp only [List.length_replicate]
  rw [show m - 1 - k - (m - (k + 1)) = 0 by omega]
  rfl

set_option maxHeartbeats 1000000 in
theorem Put_yes (n m : Nat) (hm1 : 1 ≤ m) (hm4 : m ≤ 4) (hn : n < 256 ^ m) (w : World) :
    Calls Tryd.prog 53 #[.int .i64 n, .int .i64 m] w fun e w' => e = .returned (.tuple #[.string ⟨(be n m).toArray⟩, .int .i64 0]) ∧ Below w.heap.size w w' := by
  obtain ⟨i0, hi, hz0, hz1, hz2⟩ := info_parts info5
  have hsh : ((n : Int) / 2 ^ (8 * m) != 0) = false := by
    rw [pow_8z]
    have : (n : Int) / ((256 ^ m : Nat) : Int) = 0 := Int.ediv_eq_zero_of_lt (by omega) (by omega)
    rw [this]; rfl
  go_enter Tryd.func53, Tryd.ntmps53
  go_wp2_with (first | (go_at_call 71; refine (sized_yes m (by omega) (by omega) w).mono ?_; rintro e w' ⟨rfl, rfl⟩) | (at_make; refine wpList_make_full _ rfl _ _ 31 rfl w.heap.size 5 i0 (.int .u8 0) 1 Tryd.underlying31 hi hz0 hz1 _ _ _ _ m rfl rfl (by omega) (by omega) (by rw [hz2]; omega) (by unfold maxLen; omega) (Nat.le_refl _) ?_))
  intro w1 o1 g1
  have H1 : Hid (Row w.heap.size m (List.replicate (m - 0) 0 ++ be n 0) w1) := by
    rw [toList_madeCells_one] at o1
    have : Lib.byteCells (List.replicate (m - 0) 0 ++ be n 0) = List.replicate m (.int .u8 0) := by simp [be, Lib.byteCells]
    unfold Row
    rw [this]
    exact o1
  have k1 : Below w.heap.size w w1 := (Below.refl _ _).grown g1 (Nat.le_refl _) (fun k hk => by cases hk)
  have K1 := Lib.hid k1
  clear o1 g1 k1
  go_wp2
  go_loopw [19] (fun i wr => ∃ k : Nat, i = .int .i64 k ∧ k ≤ m ∧ Row w.heap.size m (List.replicate (m - k) 0 ++ be n k) wr ∧ Below w.heap.size w wr) (fun i _ => m - (intOf i).toNat)
  case atStart => exact ⟨0, rfl, Nat.zero_le _, H1.out, K1.out⟩
  case round =>
    obtain ⟨k, rfl, hk, hr, hb⟩ := hrel
    have HR := Lib.hid hr
    have HB := Lib.hid hb
    clear hr hb
    by_cases hlt : k < m
    · have hf := World.ownsRow.frozenAt HR.out (m - 1 - k)
      have hc := World.ownsRow.cellAt HR.out (m - 1 - k) (by omega)
      have hv : (Lib.byteCells (List.replicate (m - k) 0 ++ be n k))[m - 1 - k]? = some (.int .u8 0) := by
        simp only [Lib.byteCells]
        rw [List.getElem?_map, List.getElem?_append_left (by simp; omega), List.getElem?_replicate, if_pos (by omega)]
        rfl
      rw [hv] at hc
      clear hv
      go_wp2
      have hst := World.ownsRow.stored HR.out (m - 1 - k) (.int .u8 ((n : Int) / 2 ^ (8 * k) % 256))
      rw [byteCells_set _ _ (n / 256 ^ k % 256).toUInt8 _ (by rw [pow_8z]; simp), be_step n m k hlt] at hst
      go_roundw
      case rel => exact ⟨k + 1, by go_num, by omega, hst.1, HB.out.setCell (p := ⟨w.heap.size, _, none⟩) (Nat.le_refl _) _⟩
      case measure => simp [intOf]; omega
    · obtain rfl : k = m := by omega
      have hr := HR.out
      rw [Nat.sub_self] at hr
      have hcv := row_conv (l := be n k) (be_length n k) hr
      clear hr
      go_wp2
      go_ret2
      exact ⟨rfl, HB.out⟩

set_option maxHeartbeats 1000000 in
theorem Put_arg (n m : Int) (hm : m < 1 ∨ 4 < m) (w : World) :
    Calls Tryd.prog 53 #[.int .i64 n, .int .i64 m] w fun e w' => e = .returned (.tuple #[.string ⟨#[]⟩, .int .i64 1]) ∧ w = w' := by
  have HM := Lib.hid hm
  clear hm
  go_enter Tryd.func53, Tryd.ntmps53
  go_wp2_with (go_at_call 71; refine (sized_no m HM.out w).mono ?_; rintro e w' ⟨rfl, rfl⟩)
  go_ret2
  exact ⟨rfl, rfl⟩
set_option maxHeartbeats 1000000 in
theorem Put_large (n : Int) (m : Nat) (hm1 : 1 ≤ m) (hm4 : m ≤ 4) (hn : n < 0 ∨ ((256 ^ m : Nat) : Int) ≤ n) (w : World) :
    Calls Tryd.prog 53 #[.int .i64 n, .int .i64 m] w fun e w' => e = .returned (.tuple #[.string ⟨#[]⟩, .int .i64 11]) ∧ w = w' := by
  have hsh : (n / 2 ^ (8 * m) != 0) = true := by
    rw [pow_8z, bne_iff_ne]
    have hp : (0 : Int) < ((256 ^ m : Nat) : Int) := by have := Nat.pow_pos (n := m) (show 0 < 256 by omega); omega
    rcases hn with h | h
    · have := Int.ediv_neg_of_neg_of_pos h hp; omega
    · have := Int.le_ediv_of_mul_le hp (show 1 * ((256 ^ m : Nat) : Int) ≤ n by omega); omega
  clear hn
  go_enter Tryd.func53, Tryd.ntmps53
  go_wp2_with (go_at_call 71; refine (sized_yes m (by omega) (by omega) w).mono ?_; rintro e w' ⟨rfl, rfl⟩)
  go_ret2
  exact ⟨rfl, rfl⟩

/-- How Put answers. -/
def putted (n m : Int) : ByteArray × Nat :=
  if m < 1 ∨ 4 < m then (⟨#[]⟩, 1) else if n < 0 ∨ ((256 ^ m.toNat : Nat) : Int) ≤ n then (⟨#[]⟩, 11) else (⟨(be n.toNat m.toNat).toArray⟩, 0)
theorem Put_any (n m : Int) (w : World) :
    Calls Tryd.prog 53 #[.int .i64 n, .int .i64 m] w fun e w' => e = .returned (.tuple #[.string (putted n m).1, .int .i64 (putted n m).2]) ∧ Below w.heap.size w w' := by
  unfold putted
  split
  · rename_i h
    exact (Put_arg n m h w).mono fun e w' ⟨he, hw⟩ => ⟨he, hw ▸ Below.refl _ _⟩
  rename_i hm
  obtain ⟨M, rfl⟩ := Int.eq_ofNat_of_zero_le (show 0 ≤ m by omega)
  split
  · rename_i h
    exact (Put_large n M (by omega) (by omega) (by simpa using h) w).mono fun e w' ⟨he, hw⟩ => ⟨he, hw ▸ Below.refl _ _⟩
  · rename_i h
    obtain ⟨N, rfl⟩ := Int.eq_ofNat_of_zero_le (show 0 ≤ n by omega)
    exact Put_yes N M (by omega) (by omega) (by simp only [Int.toNat_natCast] at h; omega) w

/-- A slice of one byte as a string. -/
theorem conv_one (w : World) (z : Int) (b : UInt8) (hz : z = b.toNat) : (convert 31 9 (.slice (some ⟨w.heap.size, 0, none⟩) 1 1)).run Tryd.prog (w.alloc (.cells #[.int .u8 z] 5)) = .ok (.string ⟨#[b]⟩) (w.alloc (.cells #[.int .u8 z] 5)) := by
  subst hz
  refine run_convert_bytes_back _ 31 9 5 ⟨w.heap.size, 0, none⟩ 1 [b] Tryd.underlying31 Tryd.underlying5 Tryd.underlying9 fun j hj => ?_
  obtain rfl : j = 0 := by simpa using hj
  show (w.alloc _).cell? ⟨w.heap.size, 0, none⟩ = _
  rw [cell_of_row _ w.heap.size 0 _ 5 (0, 0) (heap_alloc_new w _)]
  rfl

end Go.Proofs.YtfohgocdabgbgaaDoor
