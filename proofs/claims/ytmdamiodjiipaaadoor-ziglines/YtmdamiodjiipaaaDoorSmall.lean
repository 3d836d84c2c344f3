/- Walks: At, Spot, awake, Last. -/
import Derived.Test.YtmdamiodjiipaaaDoorRef
namespace Go.Proofs.YtmdamiodjiipaaaDoor
open Go.RowKit

set_option maxHeartbeats 1000000 in
theorem At_yes (k : Nat) (hk : k < 64) (w : World) (hT : Tab w) : Calls Tryd.prog 14 #[.int .i64 k] w fun e w' => e = .returned (.tuple #[.int .i64 (zz k : Nat), .bool true]) ∧ w = w' := by
  have x0 := hT.2 k hk
  have hp := zz_lt k hk
  clear hT
  generalize zz k = p at x0 hp
  go_enter Tryd.func14, Tryd.ntmps14
  go_wp2
  go_ret2
  exact ⟨rfl, rfl⟩
set_option maxHeartbeats 1000000 in
theorem At_no (k : Int) (hk : k < 0 ∨ 63 < k) (w : World) : Calls Tryd.prog 14 #[.int .i64 k] w fun e w' => e = .returned (.tuple #[.int .i64 0, .bool false]) ∧ w = w' := by
  rcases hk with h | h
  · go_enter Tryd.func14, Tryd.ntmps14
    go_wp2
    go_ret2
    exact ⟨rfl, rfl⟩
  · have h1 : ¬ k < 0 := by omega
    have h2 : 64 ≤ k := by omega
    go_enter Tryd.func14, Tryd.ntmps14
    go_wp2
    go_ret2
    exact ⟨rfl, rfl⟩

set_option maxHeartbeats 1000000 in
theorem Spot_yes (i : Nat) (hi : i < 64) (w : World) (hT : Tab w) : Calls Tryd.prog 15 #[.int .i64 i] w fun e w' => e = .returned (.tuple #[.int .i64 (sp i : Nat), .bool true]) ∧ w = w' := by
  have HT := Lib.hid hT
  clear hT
  have hs := sp_lt i hi
  go_enter Tryd.func15, Tryd.ntmps15
  go_wp2
  go_loop [5] (fun j => ∃ k : Nat, j = .int .i64 k ∧ k ≤ sp i) (fun j => 64 - (intOf j).toNat)
  case atStart => exact ⟨0, rfl, Nat.zero_le _⟩
  case round =>
    obtain ⟨k, rfl, hk⟩ := hrel
    have hk64 : k < 64 := by omega
    have x0 := HT.out.2 k hk64
    have hp := zz_lt k hk64
    by_cases he : k = sp i
    · rw [he, zz_sp i hi] at x0
      rw [he] at hp
      subst he
      go_wp2
      go_ret2
      exact ⟨rfl, rfl⟩
    · have hne : zz k ≠ i := fun e => he (by rw [← e, sp_zz k hk64])
      have hd : ((zz k : Nat) : Int) ≠ (i : Int) := by omega
      generalize zz k = p at x0 hp hne hd
      generalize sp i = q at *
      have hb : (((p : Nat) : Int) == (i : Int)) = false := by simpa using hd
      clear hd hne
      go_wp2
      go_round
      case rel => exact ⟨k + 1, by go_num, by omega⟩
      case measure => simp [intOf]; omega
set_option maxHeartbeats 1000000 in
theorem Spot_no (i : Int) (hi : i < 0 ∨ 63 < i) (w : World) (hT : Tab w) : Calls Tryd.prog 15 #[.int .i64 i] w fun e w' => e = .returned (.tuple #[.int .i64 0, .bool false]) ∧ w = w' := by
  have HT := Lib.hid hT
  clear hT
  go_enter Tryd.func15, Tryd.ntmps15
  go_wp2
  go_loop [5] (fun j => ∃ k : Nat, j = .int .i64 k ∧ k ≤ 64) (fun j => 64 - (intOf j).toNat)
  case atStart => exact ⟨0, rfl, Nat.zero_le _⟩
  case round =>
    obtain ⟨k, rfl, hk⟩ := hrel
    by_cases hlt : k < 64
    · have x0 := HT.out.2 k hlt
      have hp := zz_lt k hlt
      generalize zz k = p at x0 hp
      have hb : (((p : Nat) : Int) == i) = false := by
        have : ((p : Nat) : Int) ≠ i := by omega
        simpa using this
      go_wp2
      go_round
      case rel => exact ⟨k + 1, by go_num, by omega⟩
      case measure => simp [intOf]; omega
    · obtain rfl : k = 64 := by omega
      go_wp2
      go_ret2
      exact ⟨rfl, rfl⟩

set_option maxHeartbeats 1000000 in
theorem awake_any (w : World) (hT : Tab w) : Calls Tryd.prog 9 #[] w fun e w' => e = .returned (.bool true) ∧ w = w' := by
  have hA := At_yes 3 (by decide) w hT
  rw [show zz 3 = 16 by decide +kernel] at hA
  have hS := Spot_yes 8 (by decide) w hT
  rw [show sp 8 = 2 by decide +kernel] at hS
  have HA := Lib.hid hA
  have HS := Lib.hid hS
  clear hA hS hT
  go_enter Tryd.func9, Tryd.ntmps9
  go_wp2_with (first
    | (go_at_call 14; refine HA.out.mono ?_; rintro e w' ⟨rfl, rfl⟩)
    | (go_at_call 15; refine HS.out.mono ?_; rintro e w' ⟨rfl, rfl⟩))
  go_ret
  exact ⟨rfl, rfl⟩
end Go.Proofs.YtmdamiodjiipaaaDoor
