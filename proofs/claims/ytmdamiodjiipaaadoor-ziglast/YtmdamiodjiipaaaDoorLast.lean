/- A walk: the last number that isn't 0 is found. -/
import Derived.Test.YtmdamiodjiipaaaDoorEq
namespace Go.Proofs.YtmdamiodjiipaaaDoor
open Go.RowKit

theorem bne_zero_false {x : Int} (h : x = 0) : (x != 0) = false := by simp [h]
theorem bne_zero_true {x : Int} (h : x ≠ 0) : (x != 0) = true := by simpa using h
theorem beq_zero_false {x : Int} (h : x ≠ 0) : (x == 0) = false := by simpa using h

set_option maxHeartbeats 1000000 in
theorem Last_any (f : Nat → Int) (w : World) (hT : Tab w) : Calls Tryd.prog 21 #[.agg (blk .i16 f)] w fun e w' => ∃ n : Nat, e = .returned (.int .i64 n) ∧ n < 64 ∧ (0 < n → f (zz n) ≠ 0) ∧ (∀ i, n < i → i < 64 → f (zz i) = 0) ∧ Below w.heap.size w w' := by
  have hR : Row 37 .i16 w.heap.size f (w.alloc (.cells (blk .i16 f) 37)) := Row.new rfl
  have HR := Lib.hid hR
  have hB : Below w.heap.size w (w.alloc (.cells (blk .i16 f) 37)) := (Below.refl _ _).alloc (Nat.le_refl _) _
  have HB := Lib.hid hB
  have HT := Lib.hid (hT.on hB)
  clear hT hR hB
  go_enter Tryd.func21, Tryd.ntmps21
  go_wp2
  generalize w.alloc (.cells (blk .i16 f) 37) = w1 at *
  go_loop [3, 5] (fun l j => ∃ k n : Nat, j = .int .i64 k ∧ k ≤ 64 ∧ l = .int .i64 n ∧ n < 64 ∧ (0 < n → f (zz n) ≠ 0) ∧ (∀ i, n < i → i < k → f (zz i) = 0)) (fun _ j => 64 - (intOf j).toNat)
  case atStart => exact ⟨0, 0, rfl, Nat.zero_le _, rfl, by omega, fun h => absurd h (Nat.lt_irrefl _), fun i _ h => absurd h (Nat.not_lt_zero _)⟩
  case round =>
    obtain ⟨k, n, rfl, hk, rfl, hn, hf, hall⟩ := hrel
    have HF := Lib.hid hf
    have HA := Lib.hid hall
    clear hf hall
    by_cases hlt : k < 64
    · have x0 := HT.out.2 k hlt
      have hp := zz_lt k hlt
      have x1 := HR.out.cell hp
      by_cases hz : f (zz k) = 0
      · have HZ := Lib.hid hz
        have hb := bne_zero_false hz
        clear hz
        generalize zz k = p at x0 hp x1 hb
        go_wp2
        go_round
        case rel => exact ⟨k + 1, n, by go_num, by omega, rfl, hn, HF.out, fun i h1 h2 => by
          rcases Nat.lt_or_ge i k with h | h
          · exact HA.out i h1 h
          · obtain rfl : i = k := by omega
            exact HZ.out⟩
        case measure => simp [intOf]; omega
      · have HZ := Lib.hid hz
        have hb := bne_zero_true hz
        clear hz
        generalize zz k = p at x0 hp x1 hb
        go_wp2
        go_round
        case rel => exact ⟨k + 1, k, by go_num, by omega, rfl, hlt, fun _ => HZ.out, fun i h1 h2 => by omega⟩
        case measure => simp [intOf]; omega
    · obtain rfl : k = 64 := by omega
      go_wp2
      go_ret
      exact ⟨n, rfl, hn, HF.out, HA.out, HB.out⟩

set_option maxHeartbeats 4000000 in
theorem ZigLast_any (f : Nat → Int) (w : World) (hT : Tab w) : Calls Tryd.prog 8 #[.agg (blk .i16 f)] w fun e w' => e = .returned (.bool true) ∧ Below w.heap.size w w' := by
  have hR : Row 23 .i16 w.heap.size f (w.alloc (.cells (blk .i16 f) 23)) := Row.new rfl
  have hB : Below w.heap.size w (w.alloc (.cells (blk .i16 f) 23)) := (Below.refl _ _).alloc (Nat.le_refl _) _
  have HR := Lib.hid hR
  have HB := Lib.hid hB
  have HT := Lib.hid (hT.on hB)
  clear hT hR hB
  go_enter Tryd.func8, Tryd.ntmps8
  go_wp2_with (refine wpList_load_row rfl 23 _ rfl w.heap.size rfl 23 _ (0, 0) _ HR.out Tryd.underlying23 rfl (sizeB23 _) ?_)
  go_at_call 21
  generalize w.alloc (.cells (blk .i16 f) 23) = w0 at *
  refine (Last_any f w0 HT.out).mono ?_
  rintro e w1 ⟨n, rfl, hn, hf, hall, b1⟩
  have HF := Lib.hid hf
  have HA := Lib.hid hall
  have HR1 := Lib.hid (HR.out.on b1)
  have HT1 := Lib.hid (HT.out.on b1)
  have HB1 := Lib.hid (HB.out.trans (b1.mono HB.out.size))
  clear hf hall b1
  go_wp2_with (refine wpList_load_row rfl 23 _ rfl w.heap.size rfl 23 _ (0, 0) _ HR1.out Tryd.underlying23 rfl (sizeB23 _) ?_)
  go_at_call 16
  refine (RefZig f w1).mono ?_
  rintro e w2 ⟨rfl, b2⟩
  have HT2 := Lib.hid (HT1.out.on b2)
  have HB2 := Lib.hid (HB1.out.trans (b2.mono HB1.out.size))
  clear b2
  by_cases h0 : 0 < n
  · have hb := beq_zero_false (HF.out h0)
    have h0' : (0 : Int) < (n : Int) := by omega
    go_wp2_with (refine wpList_store_fresh .i16 (fun k => f (zz k)) _ rfl 23 _ _ rfl rfl rfl (sizeB23 _) (by kernel_rfl) ?_; intro w3 r3 b3; have HT3 := Lib.hid (HT2.out.on b3); have HB3 := Lib.hid (HB2.out.trans (b3.mono HB2.out.size)); have HR3 := Lib.hid r3; have x1 := r3.cell hn; clear b3 r3)
    clear x1
    go_loop [5] (fun j => ∃ k : Nat, j = .int .i64 k ∧ n < k ∧ k ≤ 64) (fun j => 64 - (intOf j).toNat)
    case atStart => exact ⟨n + 1, by go_num, by omega, by omega⟩
    case round =>
      obtain ⟨k, rfl, hk1, hk⟩ := hrel
      by_cases hlt : k < 64
      · have x1 := HR3.out.cell hlt
        have hb2 := bne_zero_false (HA.out k hk1 hlt)
        generalize f (zz k) = y at x1 hb2
        go_wp2
        go_round
        case rel => exact ⟨k + 1, by go_num, by omega, by omega⟩
        case measure => simp [intOf]; omega
      · obtain rfl : k = 64 := by omega
        go_wp2_with (go_at_call 9; refine (awake_any w3 HT3.out).mono ?_; rintro e w' ⟨rfl, rfl⟩)
        go_ret
        exact ⟨rfl, HB3.out⟩
  · obtain rfl : n = 0 := by omega
    clear h0
    go_wp2_with (refine wpList_store_fresh .i16 (fun k => f (zz k)) _ rfl 23 _ _ rfl rfl rfl (sizeB23 _) (by kernel_rfl) ?_; intro w3 r3 b3; have HT3 := Lib.hid (HT2.out.on b3); have HB3 := Lib.hid (HB2.out.trans (b3.mono HB2.out.size)); have HR3 := Lib.hid r3; have x1 := r3.cell hn; clear b3 r3)
    clear x1
    go_loop [5] (fun j => ∃ k : Nat, j = .int .i64 k ∧ 0 < k ∧ k ≤ 64) (fun j => 64 - (intOf j).toNat)
    case atStart => exact ⟨1, by go_num, by omega, by omega⟩
    case round =>
      obtain ⟨k, rfl, hk1, hk⟩ := hrel
      by_cases hlt : k < 64
      · have x1 := HR3.out.cell hlt
        have hb2 := bne_zero_false (HA.out k hk1 hlt)
        generalize f (zz k) = y at x1 hb2
        go_wp2
        go_round
        case rel => exact ⟨k + 1, by go_num, by omega, by omega⟩
        case measure => simp [intOf]; omega
      · obtain rfl : k = 64 := by omega
        go_wp2_with (go_at_call 9; refine (awake_any w3 HT3.out).mono ?_; rintro e w' ⟨rfl, rfl⟩)
        go_ret
        exact ⟨rfl, HB3.out⟩
end Go.Proofs.YtmdamiodjiipaaaDoor
