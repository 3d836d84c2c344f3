/- Walks of the document's writer: Split, Bytes. -/
import Derived.Test.YtialkpfjllhfkaaInts
import Derived.Deep.RegionLaw
namespace Go.Proofs.Ytialkpfjllhfkaa
open Go.RowKit

theorem bits_step (v n k : Nat) (hk : k < n) : (List.replicate (n - k) false ++ bitsOf v k).set (n - 1 - k) (v / 2 ^ k % 2 == 1) = List.replicate (n - (k + 1)) false ++ bitsOf v (k + 1) := by
  rw [show n - k = (n - (k + 1)) + 1 by omega, List.replicate_succ', List.append_assoc, List.set_append_right _ _ (by simp; omega)]
  simp only [List.length_replicate]
  rw [show n - 1 - k - (n - (k + 1)) = 0 by omega]
  rfl
theorem bitCells_set (l : List Bool) (j : Nat) (b : Bool) (z : Int) (hz : z = (b.toNat : Nat)) : (bitCells l).set j (.int .i64 z) = bitCells (l.set j b) := by
  subst hz
  simp [bitCells, List.map_set]

theorem bit_int0 (x : Nat) : ((x % 2 : Nat) : Int) = (((x % 2 == 1) : Bool).toNat : Nat) := by rw [bit_toNat]
def RowI (g m : Nat) (l : List Bool) (w : World) : Prop := w.ownsRow g 3 1 (.slice (some ⟨g, 0, none⟩) m m) m (bitCells l)

set_option maxHeartbeats 1000000 in
theorem Split_any (v n : Nat) (hn : n ≤ 16) (hv : v < 2 ^ n) (w : World) :
    Calls Try.prog 34 #[.int .i64 v, .int .i64 n] w fun e w' => ∃ u, e = .returned u ∧ OwnI w.heap.size u (bitsOf v n) w' ∧ Below w.heap.size w w' := by
  obtain ⟨i0, hi, hz0, hz1, hz2⟩ := info_parts info3
  have hpw : 2 ^ n ≤ 2 ^ 16 := Nat.pow_le_pow_right (by omega) hn
  go_enter Try.func34, Try.ntmps34
  go_wp2_with (at_make; refine wpList_make_full _ rfl _ _ 43 rfl w.heap.size 3 i0 (.int .i64 0) 1 Try.underlying43 hi hz0 hz1 _ _ _ _ n rfl rfl (by omega) (by omega) (by rw [hz2]; omega) (by unfold maxLen; omega) (Nat.le_refl _) ?_)
  intro w1 o1 g1
  have H1 : Hid (RowI w.heap.size n (List.replicate (n - 0) false ++ bitsOf v 0) w1) := by
    rw [toList_madeCells_one] at o1
    have : bitCells (List.replicate (n - 0) false ++ bitsOf v 0) = List.replicate n (.int .i64 0) := by simp [bitsOf, bitCells]
    unfold RowI
    rw [this]
    exact o1
  have k1 : Below w.heap.size w w1 := (Below.refl _ _).grown g1 (Nat.le_refl _) (fun k hk => by cases hk)
  have K1 := Lib.hid k1
  clear o1 g1 k1
  go_wp2
  go_loopw [0, 6] (fun x i wr => ∃ k : Nat, k ≤ n ∧ i = .int .i64 ((n : Int) - 1 - k) ∧ x = .int .i64 (v / 2 ^ k : Nat) ∧ RowI w.heap.size n (List.replicate (n - k) false ++ bitsOf v k) wr ∧ Below w.heap.size w wr) (fun _ i _ => ((intOf i) + 1).toNat)
  case atStart => exact ⟨0, Nat.zero_le _, by go_num, by simp, H1.out, K1.out⟩
  case round =>
    obtain ⟨k, hk, rfl, rfl, hr, hb⟩ := hrel
    have HR := Lib.hid hr
    have HB := Lib.hid hb
    clear hr hb
    by_cases hlt : k < n
    · have hf := World.ownsRow.frozenAt HR.out (n - 1 - k)
      have hc := World.ownsRow.cellAt HR.out (n - 1 - k) (by omega)
      have hvv : (bitCells (List.replicate (n - k) false ++ bitsOf v k))[n - 1 - k]? = some (.int .i64 0) := by
        simp only [bitCells]
        rw [List.getElem?_map, List.getElem?_append_left (by simp; omega), List.getElem?_replicate, if_pos (by omega)]
        rfl
      rw [hvv] at hc
      clear hvv
      have hi1 : (n : Int) - 1 - (k : Int) = ((n - 1 - k : Nat) : Int) := by omega
      have hq : v / 2 ^ k ≤ 65536 := Nat.le_trans (Nat.div_le_self _ _) (by omega)
      have HQ := Lib.hid (show v / 2 ^ k / 2 = v / 2 ^ (k + 1) by rw [Nat.div_div_eq_div_mul, Nat.pow_succ])
      have HS := Lib.hid (bits_step v n k hlt)
      generalize v / 2 ^ k = q at *
      go_wp2
      have hst := World.ownsRow.stored HR.out (n - 1 - k) (.int .i64 ((q : Int) % 2))
      rw [bitCells_set _ _ (q % 2 == 1) _ (by rw [← bit_int0]; simp), HS.out] at hst
      go_roundw
      case rel => exact ⟨k + 1, by omega, by go_num, by rw [← HQ.out]; go_num, hst.1, HB.out.setCell (p := ⟨w.heap.size, _, none⟩) (Nat.le_refl _) _⟩
      case measure => simp [intOf]; omega
    · obtain rfl : k = n := by omega
      have hr := HR.out
      rw [Nat.sub_self] at hr
      have HR2 := Lib.hid hr
      have hneg : (k : Int) - 1 - (k : Int) = -1 := by omega
      clear hr
      go_wp2
      go_ret
      refine ⟨_, rfl, ?_, HB.out⟩
      unfold OwnI
      rw [bitsOf_length]
      exact HR2.out
end Go.Proofs.Ytialkpfjllhfkaa
