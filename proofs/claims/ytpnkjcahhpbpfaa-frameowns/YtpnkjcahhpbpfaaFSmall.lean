/- Walks of package frame: wrong, through, has, Units, Unit; the document's cover. -/
import Derived.Test.YtpnkjcahhpbpfaaFKit
namespace Go.Proofs.Ytpnkjcahhpbpfaa
open Go.RowKit

abbrev FP := Int × Int
/-- A component's factors are wrong. -/
def wrongP (x : FP) : Bool := decide (x.1 < 1) || (decide (4 < x.1) || (decide (x.2 < 1) || decide (4 < x.2)))
set_option maxHeartbeats 2000000 in
theorem wrong_any (x : FP) (w : World) : Calls Try.prog 30 #[.agg #[.int .i64 x.1, .int .i64 x.2]] w fun e w' => e = .returned (.bool (wrongP x)) ∧ Below w.heap.size w w' := by
  obtain ⟨h, v⟩ := x
  unfold wrongP
  simp only []
  by_cases c1 : h < 1
  · rw [decide_eq_true c1]
    go_enter Try.func30, Try.ntmps30
    go_wp2
    go_ret
    exact ⟨rfl, below_new _ _⟩
  by_cases c2 : 4 < h
  · rw [decide_eq_true c2, decide_eq_false c1]
    replace c1 : 1 ≤ h := by omega
    go_enter Try.func30, Try.ntmps30
    go_wp2
    go_ret
    exact ⟨rfl, below_new _ _⟩
  by_cases c3 : v < 1
  · rw [decide_eq_true c3, decide_eq_false c1, decide_eq_false c2]
    replace c1 : 1 ≤ h := by omega
    replace c2 : h ≤ 4 := by omega
    go_enter Try.func30, Try.ntmps30
    go_wp2
    go_ret
    exact ⟨rfl, below_new _ _⟩
  by_cases c4 : 4 < v
  · rw [decide_eq_true c4, decide_eq_false c1, decide_eq_false c2, decide_eq_false c3]
    replace c1 : 1 ≤ h := by omega
    replace c2 : h ≤ 4 := by omega
    replace c3 : 1 ≤ v := by omega
    go_enter Try.func30, Try.ntmps30
    go_wp2
    go_ret
    exact ⟨rfl, below_new _ _⟩
  · rw [decide_eq_false c4, decide_eq_false c1, decide_eq_false c2, decide_eq_false c3]
    replace c1 : 1 ≤ h := by omega
    replace c2 : h ≤ 4 := by omega
    replace c3 : 1 ≤ v := by omega
    replace c4 : v ≤ 4 := by omega
    go_enter Try.func30, Try.ntmps30
    go_wp2
    go_ret
    refine ⟨?_, below_new _ _⟩
    have h4 : ¬ 4 < v := by omega
    simp [h4]
    omega
/-- A length is divided, and rounded up. -/
def up (n b : Nat) : Nat := (n + b - 1) / b
set_option maxHeartbeats 1000000 in
theorem through_any (n b : Nat) (hn : n ≤ 100000000) (hb : 1 ≤ b) (hb2 : b ≤ 100000000) (w : World) : Calls Try.prog 32 #[.int .i64 n, .int .i64 b] w fun e w' => e = .returned (.int .i64 (up n b : Nat)) ∧ w = w' := by
  have e1 : ((n : Int) + (b : Int) - 1).tdiv (b : Int) = ((up n b : Nat) : Int) := by
    rw [show (n : Int) + (b : Int) - 1 = ((n + b - 1 : Nat) : Int) by omega]
    rfl
  have hq : up n b ≤ n + b - 1 := Nat.div_le_self _ _
  have hb0 : ((b : Int) == 0) = false := by rw [beq_eq_false_iff_ne]; omega
  have hb1 : (b : Int) ≠ 0 := by omega
  generalize up n b = q at *
  go_enter Try.func32, Try.ntmps32
  go_wp2
  go_ret
  exact ⟨rfl, rfl⟩
/-- How many of a size cover a length. -/
def cov (n b : Nat) : Nat := if 0 < n % b then n / b + 1 else n / b
theorem cov_up (n b : Nat) (hb : 1 ≤ b) : cov n b = up n b := by
  unfold cov up
  have h := Nat.div_add_mod n b
  have hm := Nat.mod_lt n hb
  have e : n + b - 1 = b * (n / b) + (n % b + b - 1) := by omega
  rw [e, Nat.mul_add_div (by omega)]
  split
  · rename_i h0
    have h2 : (n % b + b - 1) / b = 1 := Nat.div_eq_of_lt_le (by omega) (by omega)
    rw [h2]
  · rename_i h0
    have h2 : (n % b + b - 1) / b = 0 := Nat.div_eq_of_lt (by omega)
    rw [h2]
    rfl
set_option maxHeartbeats 1000000 in
theorem cover_any (n b : Nat) (hn : n ≤ 100000000) (hb : 1 ≤ b) (hb2 : b ≤ 100000000) (w : World) : Calls Try.prog 28 #[.int .i64 n, .int .i64 b] w fun e w' => e = .returned (.int .i64 (cov n b : Nat)) ∧ w = w' := by
  have e1 : (n : Int).tdiv (b : Int) = ((n / b : Nat) : Int) := rfl
  have e2 : (n : Int).tmod (b : Int) = ((n % b : Nat) : Int) := rfl
  have hq : n / b ≤ n := Nat.div_le_self _ _
  have hr : n % b ≤ n := Nat.mod_le _ _
  have hb0 : ((b : Int) == 0) = false := by rw [beq_eq_false_iff_ne]; omega
  have hb1 : (b : Int) ≠ 0 := by omega
  unfold cov
  generalize n / b = q at *
  generalize n % b = r at *
  by_cases h : 0 < r
  · rw [if_pos h]
    have h' : (0 : Int) < (r : Int) := by omega
    go_enter Try.func28, Try.ntmps28
    go_wp2
    go_ret
    exact ⟨by go_num, rfl⟩
  · rw [if_neg h]
    have h' : (r : Int) ≤ 0 := by omega
    go_enter Try.func28, Try.ntmps28
    go_wp2
    go_ret
    exact ⟨rfl, rfl⟩
end Go.Proofs.Ytpnkjcahhpbpfaa
