/- How many of a size cover a length: what holds. -/
import Derived.Test.YtpnkjcahhpbpfaaFNew
namespace Go.Proofs.Ytpnkjcahhpbpfaa
open Go.RowKit

theorem up_iff (n b k : Nat) (hb : 1 ≤ b) : up n b ≤ k ↔ n ≤ k * b := by
  unfold up
  rw [← Nat.lt_succ_iff, Nat.div_lt_iff_lt_mul hb, Nat.succ_mul]
  omega
theorem up_ge (n b : Nat) (hb : 1 ≤ b) : n ≤ up n b * b := (up_iff n b _ hb).1 (Nat.le_refl _)
theorem up_lt (n b : Nat) (hn : 1 ≤ n) (hb : 1 ≤ b) : (up n b - 1) * b < n := by
  rcases Nat.lt_or_ge ((up n b - 1) * b) n with h | h
  · exact h
  · have h1 := (up_iff n b _ hb).2 h
    have h2 : 1 ≤ up n b := by
      rcases Nat.eq_zero_or_pos (up n b) with h0 | h0
      · have := up_ge n b hb
        rw [h0] at this
        omega
      · exact h0
    omega
theorem up_pos (n b : Nat) (hn : 1 ≤ n) (hb : 1 ≤ b) : 1 ≤ up n b := by
  rcases Nat.eq_zero_or_pos (up n b) with h0 | h0
  · have := up_ge n b hb
    rw [h0] at this
    omega
  · exact h0
/-- A component's own part: within its grid, less than a unit smaller. -/
theorem own_le (W m x : Nat) (hm : 1 ≤ m) : up (up (W * x) m) 8 ≤ up W (8 * m) * x := by
  rw [up_iff _ _ _ (by omega), up_iff _ _ _ hm]
  have h := up_ge W (8 * m) (by omega)
  have h2 := Nat.mul_le_mul_right x h
  exact Nat.le_trans h2 (Nat.le_of_eq (by ac_rfl))
theorem own_gt (W m x : Nat) (hW : 1 ≤ W) (hm : 1 ≤ m) (hx : 1 ≤ x) : (up W (8 * m) - 1) * x < up (up (W * x) m) 8 := by
  rcases Nat.lt_or_ge ((up W (8 * m) - 1) * x) (up (up (W * x) m) 8) with h | h
  · exact h
  · rw [ge_iff_le, up_iff _ _ _ (by omega), up_iff _ _ _ hm] at h
    have h1 := up_lt W (8 * m) hW (by omega)
    have h2 := Nat.mul_lt_mul_of_pos_right h1 hx
    have h3 : (up W (8 * m) - 1) * (8 * m) * x = (up W (8 * m) - 1) * x * 8 * m := by ac_rfl
    omega
theorem own_pos (W m x : Nat) (hW : 1 ≤ W) (hm : 1 ≤ m) (hx : 1 ≤ x) : 1 ≤ up (up (W * x) m) 8 := up_pos _ _ (up_pos _ _ (Nat.mul_pos hW hx) hm) (by omega)
theorem grid_div (a x : Nat) (ha : 1 ≤ a) : a * x / a = x ∧ a * x % a = 0 := ⟨Nat.mul_div_cancel_left x ha, Nat.mul_mod_right a x⟩
end Go.Proofs.Ytpnkjcahhpbpfaa
