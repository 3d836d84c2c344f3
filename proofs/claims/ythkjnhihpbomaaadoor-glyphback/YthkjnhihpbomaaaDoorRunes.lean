/- Walks: which runes may stand in names and notes. -/
import Derived.Test.YthkjnhihpbomaaaDoorPlain3
import Derived.Test.YthkjnhihpbomaaaDoorWalk
namespace Go.Proofs.YthkjnhihpbomaaaDoor
open Go.RowKit

set_option maxRecDepth 100000 in
set_option maxHeartbeats 8000000 in
theorem nameRune_any (r : Nat) (hr : r ≤ 1114111) (w : World) : Calls Tryd.prog 36 #[.int .i32 r] w fun e w' => e = .returned (.bool (nameR r)) ∧ w' = w := by
  have hcases : (r : Int) ≤ 44 ∨ r = 45 ∨ r = 46 ∨ r = 47 ∨ (48 ≤ (r : Int) ∧ (r : Int) ≤ 57) ∨ (58 ≤ (r : Int) ∧ (r : Int) ≤ 64) ∨ (65 ≤ (r : Int) ∧ (r : Int) ≤ 90) ∨ (91 ≤ (r : Int) ∧ (r : Int) ≤ 94) ∨ r = 95 ∨ r = 96 ∨ (97 ≤ (r : Int) ∧ (r : Int) ≤ 122) ∨ (123 ≤ (r : Int) ∧ (r : Int) ≤ 160) ∨ (161 ≤ (r : Int) ∧ (r : Int) ≤ 8191) ∨ (8192 ≤ (r : Int) ∧ (r : Int) ≤ 8303) ∨ (8304 ≤ (r : Int) ∧ (r : Int) ≤ 65278) ∨ r = 65279 ∨ (65280 ≤ (r : Int) ∧ (r : Int) ≤ 65532) ∨ (65533 ≤ (r : Int) ∧ (r : Int) ≤ 65535) ∨ 65536 ≤ (r : Int) := by omega
  rcases hcases with h | rfl | rfl | rfl | ⟨h, h'⟩ | ⟨h, h'⟩ | ⟨h, h'⟩ | ⟨h, h'⟩ | rfl | rfl | ⟨h, h'⟩ | ⟨h, h'⟩ | ⟨h, h'⟩ | ⟨h, h'⟩ | ⟨h, h'⟩ | rfl | ⟨h, h'⟩ | ⟨h, h'⟩ | h
  · rw [show nameR r = false from decide_eq_false (by omega)]
    have t0 : decide (97 ≤ (r : Int)) = false := decide_eq_false (by omega)
    have t1 : decide ((r : Int) ≤ 122) = true := decide_eq_true (by omega)
    have t2 : decide (65 ≤ (r : Int)) = false := decide_eq_false (by omega)
    have t3 : decide ((r : Int) ≤ 90) = true := decide_eq_true (by omega)
    have t4 : decide (48 ≤ (r : Int)) = false := decide_eq_false (by omega)
    have t5 : decide ((r : Int) ≤ 57) = true := decide_eq_true (by omega)
    have t6 : ((r : Int) == 45) = false := beq_eq_false_iff_ne.2 (by omega)
    have t7 : ((r : Int) == 95) = false := beq_eq_false_iff_ne.2 (by omega)
    have t8 : ((r : Int) == 46) = false := beq_eq_false_iff_ne.2 (by omega)
    have t9 : decide ((r : Int) < 161) = true := decide_eq_true (by omega)
    have t10 : decide (8192 ≤ (r : Int)) = false := decide_eq_false (by omega)
    have t11 : decide ((r : Int) ≤ 8303) = true := decide_eq_true (by omega)
    have t12 : ((r : Int) == 65279) = false := beq_eq_false_iff_ne.2 (by omega)
    have t13 : decide (65533 ≤ (r : Int)) = false := decide_eq_false (by omega)
    have t14 : decide ((r : Int) ≤ 65535) = true := decide_eq_true (by omega)
    have t15 : decide (161 ≤ (r : Int)) = false := decide_eq_false (by omega)
    go_enter Tryd.func36, Tryd.ntmps36
    go_wp2
    go_ret
    exact ⟨rfl, rfl⟩
  · rw [show nameR 45 = true from decide_eq_true (by omega)]
    go_enter Tryd.func36, Tryd.ntmps36
    go_wp2
    go_ret
    exact ⟨rfl, rfl⟩
  · rw [show nameR 46 = true from decide_eq_true (by omega)]
    go_enter Tryd.func36, Tryd.ntmps36
    go_wp2
    go_ret
    exact ⟨rfl, rfl⟩
  · rw [show nameR 47 = false from decide_eq_false (by omega)]
    go_enter Tryd.func36, Tryd.ntmps36
    go_wp2
    go_ret
    exact ⟨rfl, rfl⟩
  · rw [show nameR r = true from decide_eq_true (by omega)]
    have t0 : decide (97 ≤ (r : Int)) = false := decide_eq_false (by omega)
    have t1 : decide ((r : Int) ≤ 122) = true := decide_eq_true (by omega)
    have t2 : decide (65 ≤ (r : Int)) = false := decide_eq_false (by omega)
    have t3 : decide ((r : Int) ≤ 90) = true := decide_eq_true (by omega)
    have t4 : decide (48 ≤ (r : Int)) = true := decide_eq_true (by omega)
    have t5 : decide ((r : Int) ≤ 57) = true := decide_eq_true (by omega)
    have t6 : ((r : Int) == 45) = false := beq_eq_false_iff_ne.2 (by omega)
    have t7 : ((r : Int) == 95) = false := beq_eq_false_iff_ne.2 (by omega)
    have t8 : ((r : Int) == 46) = false := beq_eq_false_iff_ne.2 (by omega)
    have t9 : decide ((r : Int) < 161) = true := decide_eq_true (by omega)
    have t10 : decide (8192 ≤ (r : Int)) = false := decide_eq_false (by omega)
    have t11 : decide ((r : Int) ≤ 8303) = true := decide_eq_true (by omega)
    have t12 : ((r : Int) == 65279) = false := beq_eq_false_iff_ne.2 (by omega)
    have t13 : decide (65533 ≤ (r : Int)) = false := decide_eq_false (by omega)
    have t14 : decide ((r : Int) ≤ 65535) = true := decide_eq_true (by omega)
    have t15 : decide (161 ≤ (r : Int)) = false := decide_eq_false (by omega)
    go_enter Tryd.func36, Tryd.ntmps36
    go_wp2
    go_ret
    exact ⟨rfl, rfl⟩
  · rw [show nameR r = false from decide_eq_false (by omega)]
    have t0 : decide (97 ≤ (r : Int)) = false := decide_eq_false (by omega)
    have t1 : decide ((r : Int) ≤ 122) = true := decide_eq_true (by omega)
    have t2 : decide (65 ≤ (r : Int)) = false := decide_eq_false (by omega)
    have t3 : decide ((r : Int) ≤ 90) = true := decide_eq_true (by omega)
    have t4 : decide (48 ≤ (r : Int)) = true := decide_eq_true (by omega)
    have t5 : decide ((r : Int) ≤ 57) = false := decide_eq_false (by omega)
    have t6 : ((r : Int) == 45) = false := beq_eq_false_iff_ne.2 (by omega)
    have t7 : ((r : Int) == 95) = false := beq_eq_false_iff_ne.2 (by omega)
    have t8 : ((r : Int) == 46) = false := beq_eq_false_iff_ne.2 (by omega)
    have t9 : decide ((r : Int) < 161) = true := decide_eq_true (by omega)
    have t10 : decide (8192 ≤ (r : Int)) = false := decide_eq_false (by omega)
    have t11 : decide ((r : Int) ≤ 8303) = true := decide_eq_true (by omega)
    have t12 : ((r : Int) == 65279) = false := beq_eq_false_iff_ne.2 (by omega)
    have t13 : decide (65533 ≤ (r : Int)) = false := decide_eq_false (by omega)
    have t14 : decide ((r : Int) ≤ 65535) = true := decide_eq_true (by omega)
    have t15 : decide (161 ≤ (r : Int)) = false := decide_eq_false (by omega)
    go_enter Tryd.func36, Tryd.ntmps36
    go_wp2
    go_ret
    exact ⟨rfl, rfl⟩
  · rw [show nameR r = true from decide_eq_true (by omega)]
    have t0 : decide (97 ≤ (r : Int)) = false := decide_eq_false (by omega)
    have t1 : decide ((r : Int) ≤ 122) = true := decide_eq_true (by omega)
    have t2 : decide (65 ≤ (r : Int)) = true := decide_eq_true (by omega)
    have t3 : decide ((r : Int) ≤ 90) = true := decide_eq_true (by omega)
    have t4 : decide (48 ≤ (r : Int)) = true := decide_eq_true (by omega)
    have t5 : decide ((r : Int) ≤ 57) = false := decide_eq_false (by omega)
    have t6 : ((r : Int) == 45) = false := beq_eq_false_iff_ne.2 (by omega)
    have t7 : ((r : Int) == 95) = false := beq_eq_false_iff_ne.2 (by omega)
    have t8 : ((r : Int) == 46) = false := beq_eq_false_iff_ne.2 (by omega)
    have t9 : decide ((r : Int) < 161) = true := decide_eq_true (by omega)
    have t10 : decide (8192 ≤ (r : Int)) = false := decide_eq_false (by omega)
    have t11 : decide ((r : Int) ≤ 8303) = true := decide_eq_true (by omega)
    have t12 : ((r : Int) == 65279) = false := beq_eq_false_iff_ne.2 (by omega)
    have t13 : decide (65533 ≤ (r : Int)) = false := decide_eq_false (by omega)
    have t14 : decide ((r : Int) ≤ 65535) = true := decide_eq_true (by omega)
    have t15 : decide (161 ≤ (r : Int)) = false := decide_eq_false (by omega)
    go_enter Tryd.func36, Tryd.ntmps36
    go_wp2
    go_ret
    exact ⟨rfl, rfl⟩
  · rw [show nameR r = false from decide_eq_false (by omega)]
    have t0 : decide (97 ≤ (r : Int)) = false := decide_eq_false (by omega)
    have t1 : decide ((r : Int) ≤ 122) = true := decide_eq_true (by omega)
    have t2 : decide (65 ≤ (r : Int)) = true := decide_eq_true (by omega)
    have t3 : decide ((r : Int) ≤ 90) = false := decide_eq_false (by omega)
    have t4 : decide (48 ≤ (r : Int)) = true := decide_eq_true (by omega)
    have t5 : decide ((r : Int) ≤ 57) = false := decide_eq_false (by omega)
    have t6 : ((r : Int) == 45) = false := beq_eq_false_iff_ne.2 (by omega)
    have t7 : ((r : Int) == 95) = false := beq_eq_false_iff_ne.2 (by omega)
    have t8 : ((r : Int) == 46) = false := beq_eq_false_iff_ne.2 (by omega)
    have t9 : decide ((r : Int) < 161) = true := decide_eq_true (by omega)
    have t10 : decide (8192 ≤ (r : Int)) = false := decide_eq_false (by omega)
    have t11 : decide ((r : Int) ≤ 8303) = true := decide_eq_true (by omega)
    have t12 : ((r : Int) == 65279) = false := beq_eq_false_iff_ne.2 (by omega)
    have t13 : decide (65533 ≤ (r : Int)) = false := decide_eq_false (by omega)
    have t14 : decide ((r : Int) ≤ 65535) = true := decide_eq_true (by omega)
    have t15 : decide (161 ≤ (r : Int)) = false := decide_eq_false (by omega)
    go_enter Tryd.func36, Tryd.ntmps36
    go_wp2
    go_ret
    exact ⟨rfl, rfl⟩
  · rw [show nameR 95 = true from decide_eq_true (by omega)]
    go_enter Tryd.func36, Tryd.ntmps36
    go_wp2
    go_ret
    exact ⟨rfl, rfl⟩
  · rw [show nameR 96 = false from decide_eq_false (by omega)]
    go_enter Tryd.func36, Tryd.ntmps36
    go_wp2
    go_ret
    exact ⟨rfl, rfl⟩
  · rw [show nameR r = true from decide_eq_true (by omega)]
    have t0 : decide (97 ≤ (r : Int)) = true := decide_eq_true (by omega)
    have t1 : decide ((r : Int) ≤ 122) = true := decide_eq_true (by omega)
    have t2 : decide (65 ≤ (r : Int)) = true := decide_eq_true (by omega)
    have t3 : decide ((r : Int) ≤ 90) = false := decide_eq_false (by omega)
    have t4 : decide (48 ≤ (r : Int)) = true := decide_eq_true (by omega)
    have t5 : decide ((r : Int) ≤ 57) = false := decide_eq_false (by omega)
    have t6 : ((r : Int) == 45) = false := beq_eq_false_iff_ne.2 (by omega)
    have t7 : ((r : Int) == 95) = false := beq_eq_false_iff_ne.2 (by omega)
    have t8 : ((r : Int) == 46) = false := beq_eq_false_iff_ne.2 (by omega)
    have t9 : decide ((r : Int) < 161) = true := decide_eq_true (by omega)
    have t10 : decide (8192 ≤ (r : Int)) = false := decide_eq_false (by omega)
    have t11 : decide ((r : Int) ≤ 8303) = true := decide_eq_true (by omega)
    have t12 : ((r : Int) == 65279) = false := beq_eq_false_iff_ne.2 (by omega)
    have t13 : decide (65533 ≤ (r : Int)) = false := decide_eq_false (by omega)
    have t14 : decide ((r : Int) ≤ 65535) = true := decide_eq_true (by omega)
    have t15 : decide (161 ≤ (r : Int)) = false := decide_eq_false (by omega)
    go_enter Tryd.func36, Tryd.ntmps36
    go_wp2
    go_ret
    exact ⟨rfl, rfl⟩
  · rw [show nameR r = false from decide_eq_false (by omega)]
    have t0 : decide (97 ≤ (r : Int)) = true := decide_eq_true (by omega)
    have t1 : decide ((r : Int) ≤ 122) = false := decide_eq_false (by omega)
    have t2 : decide (65 ≤ (r : Int)) = true := decide_eq_true (by omega)
    have t3 : decide ((r : Int) ≤ 90) = false := decide_eq_false (by omega)
    have t4 : decide (48 ≤ (r : Int)) = true := decide_eq_true (by omega)
    have t5 : decide ((r : Int) ≤ 57) = false := decide_eq_false (by omega)
    have t6 : ((r : Int) == 45) = false := beq_eq_false_iff_ne.2 (by omega)
    have t7 : ((r : Int) == 95) = false := beq_eq_false_iff_ne.2 (by omega)
    have t8 : ((r : Int) == 46) = false := beq_eq_false_iff_ne.2 (by omega)
    have t9 : decide ((r : Int) < 161) = true := decide_eq_true (by omega)
    have t10 : decide (8192 ≤ (r : Int)) = false := decide_eq_false (by omega)
    have t11 : decide ((r : Int) ≤ 8303) = true := decide_eq_true (by omega)
    have t12 : ((r : Int) == 65279) = false := beq_eq_false_iff_ne.2 (by omega)
    have t13 : decide (65533 ≤ (r : Int)) = false := decide_eq_false (by omega)
    have t14 : decide ((r : Int) ≤ 65535) = true := decide_eq_true (by omega)
    have t15 : decide (161 ≤ (r : Int)) = false := decide_eq_false (by omega)
    go_enter Tryd.func36, Tryd.ntmps36
    go_wp2
    go_ret
    exact ⟨rfl, rfl⟩
  · rw [show nameR r = true from decide_eq_true (by omega)]
    have t0 : decide (97 ≤ (r : Int)) = true := decide_eq_true (by omega)
    have t1 : decide ((r : Int) ≤ 122) = false := decide_eq_false (by omega)
    have t2 : decide (65 ≤ (r : Int)) = true := decide_eq_true (by omega)
    have t3 : decide ((r : Int) ≤ 90) = false := decide_eq_false (by omega)
    have t4 : decide (48 ≤ (r : Int)) = true := decide_eq_true (by omega)
    have t5 : decide ((r : Int) ≤ 57) = false := decide_eq_false (by omega)
    have t6 : ((r : Int) == 45) = false := beq_eq_false_iff_ne.2 (by omega)
    have t7 : ((r : Int) == 95) = false := beq_eq_false_iff_ne.2 (by omega)
    have t8 : ((r : Int) == 46) = false := beq_eq_false_iff_ne.2 (by omega)
    have t9 : decide ((r : Int) < 161) = false := decide_eq_false (by omega)
    have t10 : decide (8192 ≤ (r : Int)) = false := decide_eq_false (by omega)
    have t11 : decide ((r : Int) ≤ 8303) = true := decide_eq_true (by omega)
    have t12 : ((r : Int) == 65279) = false := beq_eq_false_iff_ne.2 (by omega)
    have t13 : decide (65533 ≤ (r : Int)) = false := decide_eq_false (by omega)
    have t14 : decide ((r : Int) ≤ 65535) = true := decide_eq_true (by omega)
    have t15 : decide (161 ≤ (r : Int)) = true := decide_eq_true (by omega)
    go_enter Tryd.func36, Tryd.ntmps36
    go_wp2
    go_ret
    exact ⟨rfl, rfl⟩
  · rw [show nameR r = false from decide_eq_false (by omega)]
    have t0 : decide (97 ≤ (r : Int)) = true := decide_eq_true (by omega)
    have t1 : decide ((r : Int) ≤ 122) = false := decide_eq_false (by omega)
    have t2 : decide (65 ≤ (r : Int)) = true := decide_eq_true (by omega)
    have t3 : decide ((r : Int) ≤ 90) = false := decide_eq_false (by omega)
    have t4 : decide (48 ≤ (r : Int)) = true := decide_eq_true (by omega)
    have t5 : decide ((r : Int) ≤ 57) = false := decide_eq_false (by omega)
    have t6 : ((r : Int) == 45) = false := beq_eq_false_iff_ne.2 (by omega)
    have t7 : ((r : Int) == 95) = false := beq_eq_false_iff_ne.2 (by omega)
    have t8 : ((r : Int) == 46) = false := beq_eq_false_iff_ne.2 (by omega)
    have t9 : decide ((r : Int) < 161) = false := decide_eq_false (by omega)
    have t10 : decide (8192 ≤ (r : Int)) = true := decide_eq_true (by omega)
    have t11 : decide ((r : Int) ≤ 8303) = true := decide_eq_true (by omega)
    have t12 : ((r : Int) == 65279) = false := beq_eq_false_iff_ne.2 (by omega)
    have t13 : decide (65533 ≤ (r : Int)) = false := decide_eq_false (by omega)
    have t14 : decide ((r : Int) ≤ 65535) = true := decide_eq_true (by omega)
    have t15 : decide (161 ≤ (r : Int)) = true := decide_eq_true (by omega)
    go_enter Tryd.func36, Tryd.ntmps36
    go_wp2
    go_ret
    exact ⟨rfl, rfl⟩
  · rw [show nameR r = true from decide_eq_true (by omega)]
    have t0 : decide (97 ≤ (r : Int)) = true := decide_eq_true (by omega)
    have t1 : decide ((r : Int) ≤ 122) = false := decide_eq_false (by omega)
    have t2 : decide (65 ≤ (r : Int)) = true := decide_eq_true (by omega)
    have t3 : decide ((r : Int) ≤ 90) = false := decide_eq_false (by omega)
    have t4 : decide (48 ≤ (r : Int)) = true := decide_eq_true (by omega)
    have t5 : decide ((r : Int) ≤ 57) = false := decide_eq_false (by omega)
    have t6 : ((r : Int) == 45) = false := beq_eq_false_iff_ne.2 (by omega)
    have t7 : ((r : Int) == 95) = false := beq_eq_false_iff_ne.2 (by omega)
    have t8 : ((r : Int) == 46) = false := beq_eq_false_iff_ne.2 (by omega)
    have t9 : decide ((r : Int) < 161) = false := decide_eq_false (by omega)
    have t10 : decide (8192 ≤ (r : Int)) = true := decide_eq_true (by omega)
    have t11 : decide ((r : Int) ≤ 8303) = false := decide_eq_false (by omega)
    have t12 : ((r : Int) == 65279) = false := beq_eq_false_iff_ne.2 (by omega)
    have t13 : decide (65533 ≤ (r : Int)) = false := decide_eq_false (by omega)
    have t14 : decide ((r : Int) ≤ 65535) = true := decide_eq_true (by omega)
    have t15 : decide (161 ≤ (r : Int)) = true := decide_eq_true (by omega)
    go_enter Tryd.func36, Tryd.ntmps36
    go_wp2
    go_ret
    exact ⟨rfl, rfl⟩
  · rw [show nameR 65279 = false from decide_eq_false (by omega)]
    go_enter Tryd.func36, Tryd.ntmps36
    go_wp2
    go_ret
    exact ⟨rfl, rfl⟩
  · rw [show nameR r = true from decide_eq_true (by omega)]
    have t0 : decide (97 ≤ (r : Int)) = true := decide_eq_true (by omega)
    have t1 : decide ((r : Int) ≤ 122) = false := decide_eq_false (by omega)
    have t2 : decide (65 ≤ (r : Int)) = true := decide_eq_true (by omega)
    have t3 : decide ((r : Int) ≤ 90) = false := decide_eq_false (by omega)
    have t4 : decide (48 ≤ (r : Int)) = true := decide_eq_true (by omega)
    have t5 : decide ((r : Int) ≤ 57) = false := decide_eq_false (by omega)
    have t6 : ((r : Int) == 45) = false := beq_eq_false_iff_ne.2 (by omega)
    have t7 : ((r : Int) == 95) = false := beq_eq_false_iff_ne.2 (by omega)
    have t8 : ((r : Int) == 46) = false := beq_eq_false_iff_ne.2 (by omega)
    have t9 : decide ((r : Int) < 161) = false := decide_eq_false (by omega)
    have t10 : decide (8192 ≤ (r : Int)) = true := decide_eq_true (by omega)
    have t11 : decide ((r : Int) ≤ 8303) = false := decide_eq_false (by omega)
    have t12 : ((r : Int) == 65279) = false := beq_eq_false_iff_ne.2 (by omega)
    have t13 : decide (65533 ≤ (r : Int)) = false := decide_eq_false (by omega)
    have t14 : decide ((r : Int) ≤ 65535) = true := decide_eq_true (by omega)
    have t15 : decide (161 ≤ (r : Int)) = true := decide_eq_true (by omega)
    go_enter Tryd.func36, Tryd.ntmps36
    go_wp2
    go_ret
    exact ⟨rfl, rfl⟩
  · rw [show nameR r = false from decide_eq_false (by omega)]
    have t0 : decide (97 ≤ (r : Int)) = true := decide_eq_true (by omega)
    have t1 : decide ((r : Int) ≤ 122) = false := decide_eq_false (by omega)
    have t2 : decide (65 ≤ (r : Int)) = true := decide_eq_true (by omega)
    have t3 : decide ((r : Int) ≤ 90) = false := decide_eq_false (by omega)
    have t4 : decide (48 ≤ (r : Int)) = true := decide_eq_true (by omega)
    have t5 : decide ((r : Int) ≤ 57) = false := decide_eq_false (by omega)
    have t6 : ((r : Int) == 45) = false := beq_eq_false_iff_ne.2 (by omega)
    have t7 : ((r : Int) == 95) = false := beq_eq_false_iff_ne.2 (by omega)
    have t8 : ((r : Int) == 46) = false := beq_eq_false_iff_ne.2 (by omega)
    have t9 : decide ((r : Int) < 161) = false := decide_eq_false (by omega)
    have t10 : decide (8192 ≤ (r : Int)) = true := decide_eq_true (by omega)
    have t11 : decide ((r : Int) ≤ 8303) = false := decide_eq_false (by omega)
    have t12 : ((r : Int) == 65279) = false := beq_eq_false_iff_ne.2 (by omega)
    have t13 : decide (65533 ≤ (r : Int)) = true := decide_eq_true (by omega)
    have t14 : decide ((r : Int) ≤ 65535) = true := decide_eq_true (by omega)
    have t15 : decide (161 ≤ (r : Int)) = true := decide_eq_true (by omega)
    go_enter Tryd.func36, Tryd.ntmps36
    go_wp2
    go_ret
    exact ⟨rfl, rfl⟩
  · rw [show nameR r = true from decide_eq_true (by omega)]
    have t0 : decide (97 ≤ (r : Int)) = true := decide_eq_true (by omega)
    have t1 : decide ((r : Int) ≤ 122) = false := decide_eq_false (by omega)
    have t2 : decide (65 ≤ (r : Int)) = true := decide_eq_true (by omega)
    have t3 : decide ((r : Int) ≤ 90) = false := decide_eq_false (by omega)
    have t4 : decide (48 ≤ (r : Int)) = true := decide_eq_true (by omega)
    have t5 : decide ((r : Int) ≤ 57) = false := decide_eq_false (by omega)
    have t6 : ((r : Int) == 45) = false := beq_eq_false_iff_ne.2 (by omega)
    have t7 : ((r : Int) == 95) = false := beq_eq_false_iff_ne.2 (by omega)
    have t8 : ((r : Int) == 46) = false := beq_eq_false_iff_ne.2 (by omega)
    have t9 : decide ((r : Int) < 161) = false := decide_eq_false (by omega)
    have t10 : decide (8192 ≤ (r : Int)) = true := decide_eq_true (by omega)
    have t11 : decide ((r : Int) ≤ 8303) = false := decide_eq_false (by omega)
    have t12 : ((r : Int) == 65279) = false := beq_eq_false_iff_ne.2 (by omega)
    have t13 : decide (65533 ≤ (r : Int)) = true := decide_eq_true (by omega)
    have t14 : decide ((r : Int) ≤ 65535) = false := decide_eq_false (by omega)
    have t15 : decide (161 ≤ (r : Int)) = true := decide_eq_true (by omega)
    go_enter Tryd.func36, Tryd.ntmps36
    go_wp2
    go_ret
    exact ⟨rfl, rfl⟩

set_option maxRecDepth 100000 in
set_option maxHeartbeats 8000000 in
theorem rInName_any (r : Nat) (hr : r ≤ 1114111) (w : World) : Calls Tryd.prog 39 #[.int .i64 r] w fun e w' => e = .returned (.bool (nameR r)) ∧ w' = w := by
  have hcases : (r : Int) ≤ 44 ∨ r = 45 ∨ r = 46 ∨ r = 47 ∨ (48 ≤ (r : Int) ∧ (r : Int) ≤ 57) ∨ (58 ≤ (r : Int) ∧ (r : Int) ≤ 64) ∨ (65 ≤ (r : Int) ∧ (r : Int) ≤ 90) ∨ (91 ≤ (r : Int) ∧ (r : Int) ≤ 94) ∨ r = 95 ∨ r = 96 ∨ (97 ≤ (r : Int) ∧ (r : Int) ≤ 122) ∨ (123 ≤ (r : Int) ∧ (r : Int) ≤ 160) ∨ (161 ≤ (r : Int) ∧ (r : Int) ≤ 8191) ∨ (8192 ≤ (r : Int) ∧ (r : Int) ≤ 8303) ∨ (8304 ≤ (r : Int) ∧ (r : Int) ≤ 65278) ∨ r = 65279 ∨ (65280 ≤ (r : Int) ∧ (r : Int) ≤ 65532) ∨ (65533 ≤ (r : Int) ∧ (r : Int) ≤ 65535) ∨ 65536 ≤ (r : Int) := by omega
  rcases hcases with h | rfl | rfl | rfl | ⟨h, h'⟩ | ⟨h, h'⟩ | ⟨h, h'⟩ | ⟨h, h'⟩ | rfl | rfl | ⟨h, h'⟩ | ⟨h, h'⟩ | ⟨h, h'⟩ | ⟨h, h'⟩ | ⟨h, h'⟩ | rfl | ⟨h, h'⟩ | ⟨h, h'⟩ | h
  · rw [show nameR r = false from decide_eq_false (by omega)]
    have t0 : decide (97 ≤ (r : Int)) = false := decide_eq_false (by omega)
    have t1 : decide ((r : Int) ≤ 122) = true := decide_eq_true (by omega)
    have t2 : decide (65 ≤ (r : Int)) = false := decide_eq_false (by omega)
    have t3 : decide ((r : Int) ≤ 90) = true := decide_eq_true (by omega)
    have t4 : decide (48 ≤ (r : Int)) = false := decide_eq_false (by omega)
    have t5 : decide ((r : Int) ≤ 57) = true := decide_eq_true (by omega)
    have t6 : ((r : Int) == 45) = false := beq_eq_false_iff_ne.2 (by omega)
    have t7 : ((r : Int) == 95) = false := beq_eq_false_iff_ne.2 (by omega)
    have t8 : ((r : Int) == 46) = false := beq_eq_false_iff_ne.2 (by omega)
    have t9 : decide ((r : Int) < 161) = true := decide_eq_true (by omega)
    have t10 : decide (8192 ≤ (r : Int)) = false := decide_eq_false (by omega)
    have t11 : decide ((r : Int) ≤ 8303) = true := decide_eq_true (by omega)
    have t12 : ((r : Int) == 65279) = false := beq_eq_false_iff_ne.2 (by omega)
    have t13 : decide (65533 ≤ (r : Int)) = false := decide_eq_false (by omega)
    have t14 : decide ((r : Int) ≤ 65535) = true := decide_eq_true (by omega)
    have t15 : decide (161 ≤ (r : Int)) = false := decide_eq_false (by omega)
    go_enter Tryd.func39, Tryd.ntmps39
    go_wp2
    go_ret
    exact ⟨rfl, rfl⟩
  · rw [show nameR 45 = true from decide_eq_true (by omega)]
    go_enter Tryd.func39, Tryd.ntmps39
    go_wp2
    go_ret
    exact ⟨rfl, rfl⟩
  · rw [show nameR 46 = true from decide_eq_true (by omega)]
    go_enter Tryd.func39, Tryd.ntmps39
    go_wp2
    go_ret
    exact ⟨rfl, rfl⟩
  · rw [show nameR 47 = false from decide_eq_false (by omega)]
    go_enter Tryd.func39, Tryd.ntmps39
    go_wp2
    go_ret
    exact ⟨rfl, rfl⟩
  · rw [show nameR r = true from decide_eq_true (by omega)]
    have t0 : decide (97 ≤ (r : Int)) = false := decide_eq_false (by omega)
    have t1 : decide ((r : Int) ≤ 122) = true := decide_eq_true (by omega)
    have t2 : decide (65 ≤ (r : Int)) = false := decide_eq_false (by omega)
    have t3 : decide ((r : Int) ≤ 90) = true := decide_eq_true (by omega)
    have t4 : decide (48 ≤ (r : Int)) = true := decide_eq_true (by omega)
    have t5 : decide ((r : Int) ≤ 57) = true := decide_eq_true (by omega)
    have t6 : ((r : Int) == 45) = false := beq_eq_false_iff_ne.2 (by omega)
    have t7 : ((r : Int) == 95) = false := beq_eq_false_iff_ne.2 (by omega)
    have t8 : ((r : Int) == 46) = false := beq_eq_false_iff_ne.2 (by omega)
    have t9 : decide ((r : Int) < 161) = true := decide_eq_true (by omega)
    have t10 : decide (8192 ≤ (r : Int)) = false := decide_eq_false (by omega)
    have t11 : decide ((r : Int) ≤ 8303) = true := decide_eq_true (by omega)
    have t12 : ((r : Int) == 65279) = false := beq_eq_false_iff_ne.2 (by omega)
    have t13 : decide (65533 ≤ (r : Int)) = false := decide_eq_false (by omega)
    have t14 : decide ((r : Int) ≤ 65535) = true := decide_eq_true (by omega)
    have t15 : decide (161 ≤ (r : Int)) = false := decide_eq_false (by omega)
    go_enter Tryd.func39, Tryd.ntmps39
    go_wp2
    go_ret
    exact ⟨rfl, rfl⟩
  · rw [show nameR r = false from decide_eq_false (by omega)]
    have t0 : decide (97 ≤ (r : Int)) = false := decide_eq_false (by omega)
    have t1 : decide ((r : Int) ≤ 122) = true := decide_eq_true (by omega)
    have t2 : decide (65 ≤ (r : Int)) = false := decide_eq_false (by omega)
    have t3 : decide ((r : Int) ≤ 90) = true := decide_eq_true (by omega)
    have t4 : decide (48 ≤ (r : Int)) = true := decide_eq_true (by omega)
    have t5 : decide ((r : Int) ≤ 57) = false := decide_eq_false (by omega)
    have t6 : ((r : Int) == 45) = false := beq_eq_false_iff_ne.2 (by omega)
    have t7 : ((r : Int) == 95) = false := beq_eq_false_iff_ne.2 (by omega)
    have t8 : ((r : Int) == 46) = false := beq_eq_false_iff_ne.2 (by omega)
    have t9 : decide ((r : Int) < 161) = true := decide_eq_true (by omega)
    have t10 : decide (8192 ≤ (r : Int)) = false := decide_eq_false (by omega)
    have t11 : decide ((r : Int) ≤ 8303) = true := decide_eq_true (by omega)
    have t12 : ((r : Int) == 65279) = false := beq_eq_false_iff_ne.2 (by omega)
    have t13 : decide (65533 ≤ (r : Int)) = false := decide_eq_false (by omega)
    have t14 : decide ((r : Int) ≤ 65535) = true := decide_eq_true (by omega)
    have t15 : decide (161 ≤ (r : Int)) = false := decide_eq_false (by omega)
    go_enter Tryd.func39, Tryd.ntmps39
    go_wp2
    go_ret
    exact ⟨rfl, rfl⟩
  · rw [show nameR r = true from decide_eq_true (by omega)]
    have t0 : decide (97 ≤ (r : Int)) = false := decide_eq_false (by omega)
    have t1 : decide ((r : Int) ≤ 122) = true := decide_eq_true (by omega)
    have t2 : decide (65 ≤ (r : Int)) = true := decide_eq_true (by omega)
    have t3 : decide ((r : Int) ≤ 90) = true := decide_eq_true (by omega)
    have t4 : decide (48 ≤ (r : Int)) = true := decide_eq_true (by omega)
    have t5 : decide ((r : Int) ≤ 57) = false := decide_eq_false (by omega)
    have t6 : ((r : Int) == 45) = false := beq_eq_false_iff_ne.2 (by omega)
    have t7 : ((r : Int) == 95) = false := beq_eq_false_iff_ne.2 (by omega)
    have t8 : ((r : Int) == 46) = false := beq_eq_false_iff_ne.2 (by omega)
    have t9 : decide ((r : Int) < 161) = true := decide_eq_true (by omega)
    have t10 : decide (8192 ≤ (r : Int)) = false := decide_eq_false (by omega)
    have t11 : decide ((r : Int) ≤ 8303) = true := decide_eq_true (by omega)
    have t12 : ((r : Int) == 65279) = false := beq_eq_false_iff_ne.2 (by omega)
    have t13 : decide (65533 ≤ (r : Int)) = false := decide_eq_false (by omega)
    have t14 : decide ((r : Int) ≤ 65535) = true := decide_eq_true (by omega)
    have t15 : decide (161 ≤ (r : Int)) = false := decide_eq_false (by omega)
    go_enter Tryd.func39, Tryd.ntmps39
    go_wp2
    go_ret
    exact ⟨rfl, rfl⟩
  · rw [show nameR r = false from decide_eq_false (by omega)]
    have t0 : decide (97 ≤ (r : Int)) = false := decide_eq_false (by omega)
    have t1 : decide ((r : Int) ≤ 122) = true := decide_eq_true (by omega)
    have t2 : decide (65 ≤ (r : Int)) = true := decide_eq_true (by omega)
    have t3 : decide ((r : Int) ≤ 90) = false := decide_eq_false (by omega)
    have t4 : decide (48 ≤ (r : Int)) = true := decide_eq_true (by omega)
    have t5 : decide ((r : Int) ≤ 57) = false := decide_eq_false (by omega)
    have t6 : ((r : Int) == 45) = false := beq_eq_false_iff_ne.2 (by omega)
    have t7 : ((r : Int) == 95) = false := beq_eq_false_iff_ne.2 (by omega)
    have t8 : ((r : Int) == 46) = false := beq_eq_false_iff_ne.2 (by omega)
    have t9 : decide ((r : Int) < 161) = true := decide_eq_true (by omega)
    have t10 : decide (8192 ≤ (r : Int)) = false := decide_eq_false (by omega)
    have t11 : decide ((r : Int) ≤ 8303) = true := decide_eq_true (by omega)
    have t12 : ((r : Int) == 65279) = false := beq_eq_false_iff_ne.2 (by omega)
    have t13 : decide (65533 ≤ (r : Int)) = false := decide_eq_false (by omega)
    have t14 : decide ((r : Int) ≤ 65535) = true := decide_eq_true (by omega)
    have t15 : decide (161 ≤ (r : Int)) = false := decide_eq_false (by omega)
    go_enter Tryd.func39, Tryd.ntmps39
    go_wp2
    go_ret
    exact ⟨rfl, rfl⟩
  · rw [show nameR 95 = true from decide_eq_true (by omega)]
    go_enter Tryd.func39, Tryd.ntmps39
    go_wp2
    go_ret
    exact ⟨rfl, rfl⟩
  · rw [show nameR 96 = false from decide_eq_false (by omega)]
    go_enter Tryd.func39, Tryd.ntmps39
    go_wp2
    go_ret
    exact ⟨rfl, rfl⟩
  · rw [show nameR r = true from decide_eq_true (by omega)]
    have t0 : decide (97 ≤ (r : Int)) = true := decide_eq_true (by omega)
    have t1 : decide ((r : Int) ≤ 122) = true := decide_eq_true (by omega)
    have t2 : decide (65 ≤ (r : Int)) = true := decide_eq_true (by omega)
    have t3 : decide ((r : Int) ≤ 90) = false := decide_eq_false (by omega)
    have t4 : decide (48 ≤ (r : Int)) = true := decide_eq_true (by omega)
    have t5 : decide ((r : Int) ≤ 57) = false := decide_eq_false (by omega)
    have t6 : ((r : Int) == 45) = false := beq_eq_false_iff_ne.2 (by omega)
    have t7 : ((r : Int) == 95) = false := beq_eq_false_iff_ne.2 (by omega)
    have t8 : ((r : Int) == 46) = false := beq_eq_false_iff_ne.2 (by omega)
    have t9 : decide ((r : Int) < 161) = true := decide_eq_true (by omega)
    have t10 : decide (8192 ≤ (r : Int)) = false := decide_eq_false (by omega)
    have t11 : decide ((r : Int) ≤ 8303) = true := decide_eq_true (by omega)
    have t12 : ((r : Int) == 65279) = false := beq_eq_false_iff_ne.2 (by omega)
    have t13 : decide (65533 ≤ (r : Int)) = false := decide_eq_false (by omega)
    have t14 : decide ((r : Int) ≤ 65535) = true := decide_eq_true (by omega)
    have t15 : decide (161 ≤ (r : Int)) = false := decide_eq_false (by omega)
    go_enter Tryd.func39, Tryd.ntmps39
    go_wp2
    go_ret
    exact ⟨rfl, rfl⟩
  · rw [show nameR r = false from decide_eq_false (by omega)]
    have t0 : decide (97 ≤ (r : Int)) = true := decide_eq_true (by omega)
    have t1 : decide ((r : Int) ≤ 122) = false := decide_eq_false (by omega)
    have t2 : decide (65 ≤ (r : Int)) = true := decide_eq_true (by omega)
    have t3 : decide ((r : Int) ≤ 90) = false := decide_eq_false (by omega)
    have t4 : decide (48 ≤ (r : Int)) = true := decide_eq_true (by omega)
    have t5 : decide ((r : Int) ≤ 57) = false := decide_eq_false (by omega)
    have t6 : ((r : Int) == 45) = false := beq_eq_false_iff_ne.2 (by omega)
    have t7 : ((r : Int) == 95) = false := beq_eq_false_iff_ne.2 (by omega)
    have t8 : ((r : Int) == 46) = false := beq_eq_false_iff_ne.2 (by omega)
    have t9 : decide ((r : Int) < 161) = true := decide_eq_true (by omega)
    have t10 : decide (8192 ≤ (r : Int)) = false := decide_eq_false (by omega)
    have t11 : decide ((r : Int) ≤ 8303) = true := decide_eq_true (by omega)
    have t12 : ((r : Int) == 65279) = false := beq_eq_false_iff_ne.2 (by omega)
    have t13 : decide (65533 ≤ (r : Int)) = false := decide_eq_false (by omega)
    have t14 : decide ((r : Int) ≤ 65535) = true := decide_eq_true (by omega)
    have t15 : decide (161 ≤ (r : Int)) = false := decide_eq_false (by omega)
    go_enter Tryd.func39, Tryd.ntmps39
    go_wp2
    go_ret
    exact ⟨rfl, rfl⟩
  · rw [show nameR r = true from decide_eq_true (by omega)]
    have t0 : decide (97 ≤ (r : Int)) = true := decide_eq_true (by omega)
    have t1 : decide ((r : Int) ≤ 122) = false := decide_eq_false (by omega)
    have t2 : decide (65 ≤ (r : Int)) = true := decide_eq_true (by omega)
    have t3 : decide ((r : Int) ≤ 90) = false := decide_eq_false (by omega)
    have t4 : decide (48 ≤ (r : Int)) = true := decide_eq_true (by omega)
    have t5 : decide ((r : Int) ≤ 57) = false := decide_eq_false (by omega)
    have t6 : ((r : Int) == 45) = false := beq_eq_false_iff_ne.2 (by omega)
    have t7 : ((r : Int) == 95) = false := beq_eq_false_iff_ne.2 (by omega)
    have t8 : ((r : Int) == 46) = false := beq_eq_false_iff_ne.2 (by omega)
    have t9 : decide ((r : Int) < 161) = false := decide_eq_false (by omega)
    have t10 : decide (8192 ≤ (r : Int)) = false := decide_eq_false (by omega)
    have t11 : decide ((r : Int) ≤ 8303) = true := decide_eq_true (by omega)
    have t12 : ((r : Int) == 65279) = false := beq_eq_false_iff_ne.2 (by omega)
    have t13 : decide (65533 ≤ (r : Int)) = false := decide_eq_false (by omega)
    have t14 : decide ((r : Int) ≤ 65535) = true := decide_eq_true (by omega)
    have t15 : decide (161 ≤ (r : Int)) = true := decide_eq_true (by omega)
    go_enter Tryd.func39, Tryd.ntmps39
    go_wp2
    go_ret
    exact ⟨rfl, rfl⟩
  · rw [show nameR r = false from decide_eq_false (by omega)]
    have t0 : decide (97 ≤ (r : Int)) = true := decide_eq_true (by omega)
    have t1 : decide ((r : Int) ≤ 122) = false := decide_eq_false (by omega)
    have t2 : decide (65 ≤ (r : Int)) = true := decide_eq_true (by omega)
    have t3 : decide ((r : Int) ≤ 90) = false := decide_eq_false (by omega)
    have t4 : decide (48 ≤ (r : Int)) = true := decide_eq_true (by omega)
    have t5 : decide ((r : Int) ≤ 57) = false := decide_eq_false (by omega)
    have t6 : ((r : Int) == 45) = false := beq_eq_false_iff_ne.2 (by omega)
    have t7 : ((r : Int) == 95) = false := beq_eq_false_iff_ne.2 (by omega)
    have t8 : ((r : Int) == 46) = false := beq_eq_false_iff_ne.2 (by omega)
    have t9 : decide ((r : Int) < 161) = false := decide_eq_false (by omega)
    have t10 : decide (8192 ≤ (r : Int)) = true := decide_eq_true (by omega)
    have t11 : decide ((r : Int) ≤ 8303) = true := decide_eq_true (by omega)
    have t12 : ((r : Int) == 65279) = false := beq_eq_false_iff_ne.2 (by omega)
    have t13 : decide (65533 ≤ (r : Int)) = false := decide_eq_false (by omega)
    have t14 : decide ((r : Int) ≤ 65535) = true := decide_eq_true (by omega)
    have t15 : decide (161 ≤ (r : Int)) = true := decide_eq_true (by omega)
    go_enter Tryd.func39, Tryd.ntmps39
    go_wp2
    go_ret
    exact ⟨rfl, rfl⟩
  · rw [show nameR r = true from decide_eq_true (by omega)]
    have t0 : decide (97 ≤ (r : Int)) = true := decide_eq_true (by omega)
    have t1 : decide ((r : Int) ≤ 122) = false := decide_eq_false (by omega)
    have t2 : decide (65 ≤ (r : Int)) = true := decide_eq_true (by omega)
    have t3 : decide ((r : Int) ≤ 90) = false := decide_eq_false (by omega)
    have t4 : decide (48 ≤ (r : Int)) = true := decide_eq_true (by omega)
    have t5 : decide ((r : Int) ≤ 57) = false := decide_eq_false (by omega)
    have t6 : ((r : Int) == 45) = false := beq_eq_false_iff_ne.2 (by omega)
    have t7 : ((r : Int) == 95) = false := beq_eq_false_iff_ne.2 (by omega)
    have t8 : ((r : Int) == 46) = false := beq_eq_false_iff_ne.2 (by omega)
    have t9 : decide ((r : Int) < 161) = false := decide_eq_false (by omega)
    have t10 : decide (8192 ≤ (r : Int)) = true := decide_eq_true (by omega)
    have t11 : decide ((r : Int) ≤ 8303) = false := decide_eq_false (by omega)
    have t12 : ((r : Int) == 65279) = false := beq_eq_false_iff_ne.2 (by omega)
    have t13 : decide (65533 ≤ (r : Int)) = false := decide_eq_false (by omega)
    have t14 : decide ((r : Int) ≤ 65535) = true := decide_eq_true (by omega)
    have t15 : decide (161 ≤ (r : Int)) = true := decide_eq_true (by omega)
    go_enter Tryd.func39, Tryd.ntmps39
    go_wp2
    go_ret
    exact ⟨rfl, rfl⟩
  · rw [show nameR 65279 = false from decide_eq_false (by omega)]
    go_enter Tryd.func39, Tryd.ntmps39
    go_wp2
    go_ret
    exact ⟨rfl, rfl⟩
  · rw [show nameR r = true from decide_eq_true (by omega)]
    have t0 : decide (97 ≤ (r : Int)) = true := decide_eq_true (by omega)
    have t1 : decide ((r : Int) ≤ 122) = false := decide_eq_false (by omega)
    have t2 : decide (65 ≤ (r : Int)) = true := decide_eq_true (by omega)
    have t3 : decide ((r : Int) ≤ 90) = false := decide_eq_false (by omega)
    have t4 : decide (48 ≤ (r : Int)) = true := decide_eq_true (by omega)
    have t5 : decide ((r : Int) ≤ 57) = false := decide_eq_false (by omega)
    have t6 : ((r : Int) == 45) = false := beq_eq_false_iff_ne.2 (by omega)
    have t7 : ((r : Int) == 95) = false := beq_eq_false_iff_ne.2 (by omega)
    have t8 : ((r : Int) == 46) = false := beq_eq_false_iff_ne.2 (by omega)
    have t9 : decide ((r : Int) < 161) = false := decide_eq_false (by omega)
    have t10 : decide (8192 ≤ (r : Int)) = true := decide_eq_true (by omega)
    have t11 : decide ((r : Int) ≤ 8303) = false := decide_eq_false (by omega)
    have t12 : ((r : Int) == 65279) = false := beq_eq_false_iff_ne.2 (by omega)
    have t13 : decide (65533 ≤ (r : Int)) = false := decide_eq_false (by omega)
    have t14 : decide ((r : Int) ≤ 65535) = true := decide_eq_true (by omega)
    have t15 : decide (161 ≤ (r : Int)) = true := decide_eq_true (by omega)
    go_enter Tryd.func39, Tryd.ntmps39
    go_wp2
    go_ret
    exact ⟨rfl, rfl⟩
  · rw [show nameR r = false from decide_eq_false (by omega)]
    have t0 : decide (97 ≤ (r : Int)) = true := decide_eq_true (by omega)
    have t1 : decide ((r : Int) ≤ 122) = false := decide_eq_false (by omega)
    have t2 : decide (65 ≤ (r : Int)) = true := decide_eq_true (by omega)
    have t3 : decide ((r : Int) ≤ 90) = false := decide_eq_false (by omega)
    have t4 : decide (48 ≤ (r : Int)) = true := decide_eq_true (by omega)
    have t5 : decide ((r : Int) ≤ 57) = false := decide_eq_false (by omega)
    have t6 : ((r : Int) == 45) = false := beq_eq_false_iff_ne.2 (by omega)
    have t7 : ((r : Int) == 95) = false := beq_eq_false_iff_ne.2 (by omega)
    have t8 : ((r : Int) == 46) = false := beq_eq_false_iff_ne.2 (by omega)
    have t9 : decide ((r : Int) < 161) = false := decide_eq_false (by omega)
    have t10 : decide (8192 ≤ (r : Int)) = true := decide_eq_true (by omega)
    have t11 : decide ((r : Int) ≤ 8303) = false := decide_eq_false (by omega)
    have t12 : ((r : Int) == 65279) = false := beq_eq_false_iff_ne.2 (by omega)
    have t13 : decide (65533 ≤ (r : Int)) = true := decide_eq_true (by omega)
    have t14 : decide ((r : Int) ≤ 65535) = true := decide_eq_true (by omega)
    have t15 : decide (161 ≤ (r : Int)) = true := decide_eq_true (by omega)
    go_enter Tryd.func39, Tryd.ntmps39
    go_wp2
    go_ret
    exact ⟨rfl, rfl⟩
  · rw [show nameR r = true from decide_eq_true (by omega)]
    have t0 : decide (97 ≤ (r : Int)) = true := decide_eq_true (by omega)
    have t1 : decide ((r : Int) ≤ 122) = false := decide_eq_false (by omega)
    have t2 : decide (65 ≤ (r : Int)) = true := decide_eq_true (by omega)
    have t3 : decide ((r : Int) ≤ 90) = false := decide_eq_false (by omega)
    have t4 : decide (48 ≤ (r : Int)) = true := decide_eq_true (by omega)
    have t5 : decide ((r : Int) ≤ 57) = false := decide_eq_false (by omega)
    have t6 : ((r : Int) == 45) = false := beq_eq_false_iff_ne.2 (by omega)
    have t7 : ((r : Int) == 95) = false := beq_eq_false_iff_ne.2 (by omega)
    have t8 : ((r : Int) == 46) = false := beq_eq_false_iff_ne.2 (by omega)
    have t9 : decide ((r : Int) < 161) = false := decide_eq_false (by omega)
    have t10 : decide (8192 ≤ (r : Int)) = true := decide_eq_true (by omega)
    have t11 : decide ((r : Int) ≤ 8303) = false := decide_eq_false (by omega)
    have t12 : ((r : Int) == 65279) = false := beq_eq_false_iff_ne.2 (by omega)
    have t13 : decide (65533 ≤ (r : Int)) = true := decide_eq_true (by omega)
    have t14 : decide ((r : Int) ≤ 65535) = false := decide_eq_false (by omega)
    have t15 : decide (161 ≤ (r : Int)) = true := decide_eq_true (by omega)
    go_enter Tryd.func39, Tryd.ntmps39
    go_wp2
    go_ret
    exact ⟨rfl, rfl⟩

set_option maxRecDepth 100000 in
set_option maxHeartbeats 1000000 in
theorem rInName_none (w : World) : Calls Tryd.prog 39 #[.int .i64 (-1)] w fun e w' => e = .returned (.bool false) ∧ w' = w := by
  go_enter Tryd.func39, Tryd.ntmps39
  go_wp2
  go_ret
  exact ⟨rfl, rfl⟩

set_option maxRecDepth 100000 in
set_option maxHeartbeats 1000000 in
theorem noteRune_any (r : Nat) (hr : r ≤ 1114111) (w : World) : Calls Tryd.prog 37 #[.int .i32 r] w fun e w' => e = .returned (.bool (noteR r)) ∧ w' = w := by
  have hcases : (r : Int) ≤ 9 ∨ r = 10 ∨ (11 ≤ (r : Int) ∧ (r : Int) ≤ 31) ∨ (32 ≤ (r : Int) ∧ (r : Int) ≤ 126) ∨ (127 ≤ (r : Int) ∧ (r : Int) ≤ 159) ∨ 160 ≤ (r : Int) := by omega
  rcases hcases with h | rfl | ⟨h, h'⟩ | ⟨h, h'⟩ | ⟨h, h'⟩ | h
  · rw [show noteR r = false from decide_eq_false (by omega)]
    have t0 : decide ((r : Int) < 32) = true := decide_eq_true (by omega)
    have t1 : decide ((r : Int) < 127) = true := decide_eq_true (by omega)
    have t2 : decide (159 < (r : Int)) = false := decide_eq_false (by omega)
    have t4 : ((r : Int) == 10) = false := beq_eq_false_iff_ne.2 (by omega)
    go_enter Tryd.func37, Tryd.ntmps37
    go_wp2
    go_ret
    exact ⟨rfl, rfl⟩
  · rw [show noteR 10 = true from decide_eq_true (by omega)]
    go_enter Tryd.func37, Tryd.ntmps37
    go_wp2
    go_ret
    exact ⟨rfl, rfl⟩
  · rw [show noteR r = false from decide_eq_false (by omega)]
    have t0 : decide ((r : Int) < 32) = true := decide_eq_true (by omega)
    have t1 : decide ((r : Int) < 127) = true := decide_eq_true (by omega)
    have t2 : decide (159 < (r : Int)) = false := decide_eq_false (by omega)
    have t4 : ((r : Int) == 10) = false := beq_eq_false_iff_ne.2 (by omega)
    go_enter Tryd.func37, Tryd.ntmps37
    go_wp2
    go_ret
    exact ⟨rfl, rfl⟩
  · rw [show noteR r = true from decide_eq_true (by omega)]
    have t0 : decide ((r : Int) < 32) = false := decide_eq_false (by omega)
    have t1 : decide ((r : Int) < 127) = true := decide_eq_true (by omega)
    have t2 : decide (159 < (r : Int)) = false := decide_eq_false (by omega)
    have t4 : ((r : Int) == 10) = false := beq_eq_false_iff_ne.2 (by omega)
    go_enter Tryd.func37, Tryd.ntmps37
    go_wp2
    go_ret
    exact ⟨rfl, rfl⟩
  · rw [show noteR r = false from decide_eq_false (by omega)]
    have t0 : decide ((r : Int) < 32) = false := decide_eq_false (by omega)
    have t1 : decide ((r : Int) < 127) = false := decide_eq_false (by omega)
    have t2 : decide (159 < (r : Int)) = false := decide_eq_false (by omega)
    have t4 : ((r : Int) == 10) = false := beq_eq_false_iff_ne.2 (by omega)
    go_enter Tryd.func37, Tryd.ntmps37
    go_wp2
    go_ret
    exact ⟨rfl, rfl⟩
  · rw [show noteR r = true from decide_eq_true (by omega)]
    have t0 : decide ((r : Int) < 32) = false := decide_eq_false (by omega)
    have t1 : decide ((r : Int) < 127) = false := decide_eq_false (by omega)
    have t2 : decide (159 < (r : Int)) = true := decide_eq_true (by omega)
    have t4 : ((r : Int) == 10) = false := beq_eq_false_iff_ne.2 (by omega)
    go_enter Tryd.func37, Tryd.ntmps37
    go_wp2
    go_ret
    exact ⟨rfl, rfl⟩
end Go.Proofs.YthkjnhihpbomaaaDoor
