/- Walks of the document's own answers: digit, fault. -/
import Derived.Test.YthkjnhihpbomaaaDoorUnq1
import Derived.Test.YthkjnhihpbomaaaDoorRefFold2
namespace Go.Proofs.YthkjnhihpbomaaaDoor
open Go.RowKit

def rdig (c : Nat) : Int := if digOk c then (digV c : Int) else -1
set_option maxRecDepth 100000 in
set_option maxHeartbeats 1000000 in
theorem rdigit_any (c : Nat) (hc : c < 256) (w : World) : Calls Tryd.prog 44 #[.int .u8 c] w fun e w' => e = .returned (.int .i64 (rdig c)) ∧ w' = w := by
  have hcases : (c : Int) ≤ 47 ∨ (48 ≤ (c : Int) ∧ (c : Int) ≤ 57) ∨ (58 ≤ (c : Int) ∧ (c : Int) ≤ 96) ∨ (97 ≤ (c : Int) ∧ (c : Int) ≤ 102) ∨ 103 ≤ (c : Int) := by omega
  rcases hcases with h | ⟨h, h'⟩ | ⟨h, h'⟩ | ⟨h, h'⟩ | h
  · have hv : rdig c = -1 := by
      unfold rdig
      rw [show digOk c = false from decide_eq_false (by omega)]
      rfl
    have t0 : decide (48 ≤ (c : Int)) = false := decide_eq_false (by omega)
    have t1 : decide ((c : Int) ≤ 57) = true := decide_eq_true (by omega)
    have t2 : decide (97 ≤ (c : Int)) = false := decide_eq_false (by omega)
    have t3 : decide ((c : Int) ≤ 102) = true := decide_eq_true (by omega)
    rw [hv]
    clear hv
    go_enter Tryd.func44, Tryd.ntmps44
    go_wp2
    go_ret
    exact ⟨rfl, rfl⟩
  · have hv : rdig c = (c : Int) - 48 := by
      unfold rdig
      rw [show digOk c = true from decide_eq_true (by omega), if_pos rfl]
      unfold digV
      repeat' split
      all_goals omega
    have t0 : decide (48 ≤ (c : Int)) = true := decide_eq_true (by omega)
    have t1 : decide ((c : Int) ≤ 57) = true := decide_eq_true (by omega)
    have t2 : decide (97 ≤ (c : Int)) = false := decide_eq_false (by omega)
    have t3 : decide ((c : Int) ≤ 102) = true := decide_eq_true (by omega)
    rw [hv]
    clear hv
    go_enter Tryd.func44, Tryd.ntmps44
    go_wp2
    go_ret
    exact ⟨rfl, rfl⟩
  · have hv : rdig c = -1 := by
      unfold rdig
      rw [show digOk c = false from decide_eq_false (by omega)]
      rfl
    have t0 : decide (48 ≤ (c : Int)) = true := decide_eq_true (by omega)
    have t1 : decide ((c : Int) ≤ 57) = false := decide_eq_false (by omega)
    have t2 : decide (97 ≤ (c : Int)) = false := decide_eq_false (by omega)
    have t3 : decide ((c : Int) ≤ 102) = true := decide_eq_true (by omega)
    rw [hv]
    clear hv
    go_enter Tryd.func44, Tryd.ntmps44
    go_wp2
    go_ret
    exact ⟨rfl, rfl⟩
  · have hv : rdig c = (c : Int) - 87 := by
      unfold rdig
      rw [show digOk c = true from decide_eq_true (by omega), if_pos rfl]
      unfold digV
      repeat' split
      all_goals omega
    have t0 : decide (48 ≤ (c : Int)) = true := decide_eq_true (by omega)
    have t1 : decide ((c : Int) ≤ 57) = false := decide_eq_false (by omega)
    have t2 : decide (97 ≤ (c : Int)) = true := decide_eq_true (by omega)
    have t3 : decide ((c : Int) ≤ 102) = true := decide_eq_true (by omega)
    rw [hv]
    clear hv
    go_enter Tryd.func44, Tryd.ntmps44
    go_wp2
    go_ret
    exact ⟨ret_int (by omega), rfl⟩
  · have hv : rdig c = -1 := by
      unfold rdig
      rw [show digOk c = false from decide_eq_false (by omega)]
      rfl
    have t0 : decide (48 ≤ (c : Int)) = true := decide_eq_true (by omega)
    have t1 : decide ((c : Int) ≤ 57) = false := decide_eq_false (by omega)
    have t2 : decide (97 ≤ (c : Int)) = true := decide_eq_true (by omega)
    have t3 : decide ((c : Int) ≤ 102) = false := decide_eq_false (by omega)
    rw [hv]
    clear hv
    go_enter Tryd.func44, Tryd.ntmps44
    go_wp2
    go_ret
    exact ⟨rfl, rfl⟩

set_option maxHeartbeats 1000000 in
theorem fault_short (s : ByteArray) (w : World) : Calls Tryd.prog 43 #[.string s, .int .i64 (s.size : Nat)] w fun e w' => e = .returned (.tuple #[.string ⟨#[]⟩, .int .i64 (s.size : Nat), .int .i64 2]) ∧ w' = w := by
  go_enter Tryd.func43, Tryd.ntmps43
  go_wp2
  go_ret3
  exact ⟨rfl, rfl⟩
set_option maxHeartbeats 1000000 in
theorem fault_text (s : ByteArray) (p : Nat) (hp : (p : Int) < (s.size : Int)) (w : World) : Calls Tryd.prog 43 #[.string s, .int .i64 p] w fun e w' => e = .returned (.tuple #[.string ⟨#[]⟩, .int .i64 p, .int .i64 16]) ∧ w' = w := by
  go_enter Tryd.func43, Tryd.ntmps43
  go_wp2
  go_ret3
  exact ⟨rfl, rfl⟩
theorem fault_short_z (s : ByteArray) (z : Int) (hz : z = (s.size : Nat)) (w : World) : Calls Tryd.prog 43 #[.string s, .int .i64 z] w fun e w' => e = .returned (.tuple #[.string ⟨#[]⟩, .int .i64 (s.size : Nat), .int .i64 2]) ∧ w' = w := by
  subst hz; exact fault_short s w
theorem fault_text_z (s : ByteArray) (p : Nat) (hp : p < s.size) (z : Int) (hz : z = (p : Nat)) (w : World) : Calls Tryd.prog 43 #[.string s, .int .i64 z] w fun e w' => e = .returned (.tuple #[.string ⟨#[]⟩, .int .i64 p, .int .i64 16]) ∧ w' = w := by
  subst hz; exact fault_text s p (by omega) w
theorem rdig_ok (c : Nat) (h : digOk c = true) : rdig c = (digV c : Int) := by unfold rdig; rw [h]; rfl
theorem rdig_no (c : Nat) (h : digOk c = false) : rdig c = -1 := by unfold rdig; rw [h]; rfl
end Go.Proofs.YthkjnhihpbomaaaDoor
