/- Walks: Shorten and Extend, the program's and the document's; awake. -/
import Derived.Test.YtmoennlpendknaaHNext
namespace Go.Proofs.Ytmoennlpendknaa
open Go.RowKit

/-- How many bits a number has. -/
def bl (a : Nat) : Nat := if a = 0 then 0 else Nat.log2 a + 1
theorem bl_iff (a n : Nat) : 2 ^ n ≤ a ↔ n < bl a := by
  unfold bl
  by_cases h : a = 0
  · subst h
    have := Nat.two_pow_pos n
    simp
  · rw [if_neg h]
    constructor
    · intro h1
      apply Nat.lt_of_not_le
      intro h2
      have h3 : 2 ^ (Nat.log2 a + 1) ≤ 2 ^ n := Nat.pow_le_pow_right (by omega) h2
      have h4 := Nat.lt_log2_self (n := a)
      omega
    · intro h1
      have h3 : 2 ^ n ≤ 2 ^ Nat.log2 a := Nat.pow_le_pow_right (by omega) (by omega)
      have h4 := Nat.log2_self_le h
      omega
theorem bl_le (a : Nat) (h : a ≤ 32767) : bl a ≤ 15 := by
  apply Nat.le_of_not_lt
  intro h1
  have := (bl_iff a 15).2 h1
  omega
/-- What a number is written by. -/
def short (v : Int) : Nat × Int := if 32767 < v ∨ v < -32767 then (0, 0) else (bl v.natAbs, if v < 0 then v + ((2 ^ bl v.natAbs : Nat) : Int) - 1 else v)
/-- What bits stand for. -/
def ext (v n : Int) : Int := if n < 1 ∨ 15 < n then 0 else if v < 0 ∨ ((2 ^ n.toNat : Nat) : Int) ≤ v then 0 else if ((2 ^ (n.toNat - 1) : Nat) : Int) ≤ v then v else v - ((2 ^ n.toNat : Nat) : Int) + 1
theorem ext_short (v : Int) (h : (short v).1 ≠ 0) : ext (short v).2 (short v).1 = v := by
  unfold short at *
  split at h
  · exact absurd rfl h
  rename_i hv
  rw [if_neg hv]
  simp only at h ⊢
  have hb := bl_le v.natAbs (by omega)
  have h1 : ¬ 2 ^ bl v.natAbs ≤ v.natAbs := fun h => Nat.lt_irrefl _ ((bl_iff _ _).1 h)
  obtain ⟨m, hm⟩ : ∃ m, bl v.natAbs = m + 1 := ⟨bl v.natAbs - 1, by omega⟩
  have h2 : 2 ^ m ≤ v.natAbs := (bl_iff _ _).2 (by omega)
  obtain ⟨p, hp⟩ : ∃ p, p = 2 ^ m := ⟨_, rfl⟩
  have h3 : 2 ^ (m + 1) = 2 * p := by rw [Nat.pow_succ, Nat.mul_comm, hp]
  rw [hm, h3] at h1
  rw [← hp] at h2
  unfold ext
  rw [hm]
  simp only [Int.toNat_natCast, Nat.add_sub_cancel, h3, ← hp]
  rw [if_neg (by omega)]
  by_cases hn : v < 0
  · rw [if_pos hn, if_neg (by omega), if_neg (by omega)]
    omega
  · rw [if_neg hn, if_neg (by omega), if_pos (by omega)]

theorem ret_two {a b c d : Int} (h1 : a = c) (h2 : b = d) : Ending.returned (.tuple #[.int .i64 a, .int .i64 b]) = .returned (.tuple #[.int .i64 c, .int .i64 d]) := by rw [h1, h2]
theorem shr_bl (a n : Nat) : ((a : Int) / 2 ^ n != 0) = decide (n < bl a) := by
  rw [show (a : Int) / 2 ^ n = ((a / 2 ^ n : Nat) : Int) by simp, Bool.eq_iff_iff, bne_iff_ne, decide_eq_true_iff, ← bl_iff, ← Nat.one_mul (2 ^ n), ← Nat.le_div_iff_mul_le (Nat.two_pow_pos n), Nat.one_mul]
  generalize a / 2 ^ n = q
  omega
set_option maxHeartbeats 1000000 in
theorem Shorten_out (v : Int) (h : 32767 < v ∨ v < -32767) (w : World) : Calls Try.prog 23 #[.int .i64 v] w fun e w' => e = .returned (.tuple #[.int .i64 0, .int .i64 0]) ∧ w = w' := by
  rcases h with h | h
  · have h1 : ¬ v ≤ -32768 := by omega
    have h2 : 32768 ≤ v := by omega
    go_enter Try.func23, Try.ntmps23
    go_wp2
    go_ret2
    exact ⟨rfl, rfl⟩
  · have h1 : v ≤ -32768 := by omega
    go_enter Try.func23, Try.ntmps23
    go_wp2
    go_ret2
    exact ⟨rfl, rfl⟩
set_option maxHeartbeats 1000000 in
theorem Shorten_pos (v : Nat) (h : v ≤ 32767) (w : World) : Calls Try.prog 23 #[.int .i64 v] w fun e w' => e = .returned (.tuple #[.int .i64 (bl v), .int .i64 v]) ∧ w = w' := by
  have hb := bl_le v h
  have h1 : ¬ (v : Int) ≤ -32768 := by omega
  have h2 : ¬ 32768 ≤ (v : Int) := by omega
  have h3 : (-(v : Int)) ≤ v := by omega
  have HS := Lib.hid (shr_bl v)
  generalize bl v = L at *
  go_enter Try.func23, Try.ntmps23
  go_wp2
  clear h1 h2
  go_loop [4] (fun n => ∃ j : Nat, j ≤ L ∧ n = .int .i64 j) (fun n => 16 - (intOf n).toNat)
  case atStart => exact ⟨0, by omega, rfl⟩
  case round =>
    obtain ⟨j, hj, rfl⟩ := hrel
    have hs := HS.out j
    by_cases e : j < L
    · rw [decide_eq_true e] at hs
      go_wp2
      go_round
      case rel => exact ⟨j + 1, by omega, by go_num⟩
      case measure => simp [intOf]; omega
    · rw [decide_eq_false e] at hs
      obtain rfl : j = L := by omega
      clear e hj
      go_wp2
      go_ret2
      exact ⟨rfl, rfl⟩
theorem pow15 (n : Nat) (hn : n ≤ 15) : wrap64 (2 ^ n) = ((2 ^ n : Nat) : Int) := wrap_pow n (by omega)
theorem pow_le15 (n : Nat) (hn : n ≤ 15) : 2 ^ n ≤ 32768 := Nat.le_trans (Nat.pow_le_pow_right (by omega) hn) (by decide)
theorem neg_wrap (m j : Nat) (hm : m ≤ 32767) (hj : j ≤ 15) : wrap64 (wrap64 (-(m : Int) + 2 ^ j) - 1) = -(m : Int) + ((2 ^ j : Nat) : Int) - 1 := by
  have h := pow_le15 j hj
  rw [show (2 : Int) ^ j = ((2 ^ j : Nat) : Int) by simp]
  generalize 2 ^ j = p at *
  unfold wrap64
  omega
set_option maxHeartbeats 1000000 in
theorem Shorten_neg (m : Nat) (h0 : 0 < m) (h : m ≤ 32767) (w : World) : Calls Try.prog 23 #[.int .i64 (-(m : Int))] w fun e w' => e = .returned (.tuple #[.int .i64 (bl m), .int .i64 (-(m : Int) + ((2 ^ bl m : Nat) : Int) - 1)]) ∧ ∃ n, w' = w.drewN n := by
  have hb := bl_le m h
  have hp := pow_le15 (bl m) hb
  have hpw := pow15 (bl m) hb
  have h1 : ¬ (-(m : Int)) ≤ -32768 := by omega
  have h2 : ¬ 32768 ≤ (-(m : Int)) := by omega
  have h3 : ¬ (m : Int) ≤ -(m : Int) := by omega
  have h4 : (-(m : Int)) < 0 := by omega
  have HS := Lib.hid (shr_bl m)
  generalize hL : bl m = L at *
  clear hL
  go_enter Try.func23, Try.ntmps23
  go_wp2
  clear h1 h2
  go_loop [4] (fun n => ∃ j : Nat, j ≤ L ∧ n = .int .i64 j) (fun n => 16 - (intOf n).toNat)
  case atStart => exact ⟨0, by omega, rfl⟩
  case round =>
    obtain ⟨j, hj, rfl⟩ := hrel
    have hs := HS.out j
    by_cases e : j < L
    · rw [decide_eq_true e] at hs
      go_wp2
      go_round
      case rel => exact ⟨j + 1, by omega, by go_num⟩
      case measure => simp [intOf]; omega
    · rw [decide_eq_false e] at hs
      obtain rfl : j = L := by omega
      clear e hj
      go_wp2
      go_quiet (fail)
      go_wp2
      go_ret2
      exact ⟨ret_two rfl (neg_wrap m j h hb), _, rfl⟩
set_option maxHeartbeats 1000000 in
theorem RefShorten_out (v : Int) (h : 32767 < v ∨ v < -32767) (w : World) : Calls Try.prog 24 #[.int .i64 v] w fun e w' => e = .returned (.tuple #[.int .i64 0, .int .i64 0]) ∧ w = w' := by
  rcases h with h | h
  · go_enter Try.func24, Try.ntmps24
    go_wp2
    go_ret2
    exact ⟨rfl, rfl⟩
  · have h1 : ¬ 32767 < v := by omega
    go_enter Try.func24, Try.ntmps24
    go_wp2
    go_ret2
    exact ⟨rfl, rfl⟩
set_option maxHeartbeats 1000000 in
theorem RefShorten_pos (v : Nat) (h : v ≤ 32767) (w : World) : Calls Try.prog 24 #[.int .i64 v] w fun e w' => e = .returned (.tuple #[.int .i64 (bl v), .int .i64 v]) ∧ w = w' := by
  have hb := bl_le v h
  have h1 : ¬ (32767 : Int) < (v : Int) := by omega
  have h2 : ¬ (v : Int) < -32767 := by omega
  have HI := Lib.hid (bl_iff v)
  generalize bl v = L at *
  go_enter Try.func24, Try.ntmps24
  go_wp2
  clear h1 h2
  go_loop [5, 6] (fun n p => ∃ j : Nat, j ≤ L ∧ n = .int .i64 j ∧ p = .int .i64 (2 ^ j : Nat)) (fun n _ => 16 - (intOf n).toNat)
  case atStart => exact ⟨0, by omega, rfl, rfl⟩
  case round =>
    obtain ⟨j, hj, rfl, rfl⟩ := hrel
    have hi := HI.out j
    have hp := pow_le15 j (by omega)
    have HP := Lib.hid (show 2 ^ (j + 1) = 2 ^ j * 2 from Nat.pow_succ ..)
    by_cases e : j < L
    · have hle : ((2 ^ j : Nat) : Int) ≤ (v : Int) := by have := hi.2 e; omega
      clear hi
      generalize 2 ^ j = p at *
      go_wp2
      go_round
      case rel => exact ⟨j + 1, by omega, by go_num, by rw [HP.out]; go_num⟩
      case measure => simp [intOf]; omega
    · have hle : ¬ ((2 ^ j : Nat) : Int) ≤ (v : Int) := by
        intro h
        exact e (hi.1 (by omega))
      obtain rfl : j = L := by omega
      clear hi e hj
      generalize 2 ^ j = p at *
      go_wp2
      go_ret2
      exact ⟨rfl, rfl⟩
set_option maxHeartbeats 1000000 in
theorem RefShorten_neg (m : Nat) (h0 : 0 < m) (h : m ≤ 32767) (w : World) : Calls Try.prog 24 #[.int .i64 (-(m : Int))] w fun e w' => e = .returned (.tuple #[.int .i64 (bl m), .int .i64 (-(m : Int) + ((2 ^ bl m : Nat) : Int) - 1)]) ∧ w = w' := by
  have hb := bl_le m h
  have h1 : ¬ (32767 : Int) < (-(m : Int)) := by omega
  have h2 : ¬ (-(m : Int)) < -32767 := by omega
  have h4 : (-(m : Int)) < 0 := by omega
  have HI := Lib.hid (bl_iff m)
  generalize hL : bl m = L at *
  clear hL
  go_enter Try.func24, Try.ntmps24
  go_wp2
  clear h1 h2
  go_loop [5, 6] (fun n p => ∃ j : Nat, j ≤ L ∧ n = .int .i64 j ∧ p = .int .i64 (2 ^ j : Nat)) (fun n _ => 16 - (intOf n).toNat)
  case atStart => exact ⟨0, by omega, rfl, rfl⟩
  case round =>
    obtain ⟨j, hj, rfl, rfl⟩ := hrel
    have hi := HI.out j
    have hp := pow_le15 j (by omega)
    have HP := Lib.hid (show 2 ^ (j + 1) = 2 ^ j * 2 from Nat.pow_succ ..)
    by_cases e : j < L
    · have hle : ((2 ^ j : Nat) : Int) ≤ (m : Int) := by have := hi.2 e; omega
      clear hi
      generalize 2 ^ j = p at *
      go_wp2
      go_round
      case rel => exact ⟨j + 1, by omega, by go_num, by rw [HP.out]; go_num⟩
      case measure => simp [intOf]; omega
    · have hle : ¬ ((2 ^ j : Nat) : Int) ≤ (m : Int) := by
        intro h
        exact e (hi.1 (by omega))
      obtain rfl : j = L := by omega
      clear hi e hj
      go_wp2
      go_ret2
      exact ⟨ret_two rfl (by rw [neg_wrap m j h hb]; simp), rfl⟩
/-- Shorten, whatever the number. -/
theorem Shorten_any (v : Int) (w : World) : Calls Try.prog 23 #[.int .i64 v] w fun e w' => e = .returned (.tuple #[.int .i64 (short v).1, .int .i64 (short v).2]) ∧ ∃ n, w' = w.drewN n := by
  unfold short
  by_cases h : 32767 < v ∨ v < -32767
  · rw [if_pos h]
    exact (Shorten_out v h w).mono fun e w' ⟨he, hw⟩ => ⟨he, 0, hw.symm⟩
  · rw [if_neg h]
    by_cases hn : v < 0
    · obtain ⟨m, rfl⟩ : ∃ m : Nat, v = -(m : Int) := ⟨v.natAbs, by omega⟩
      have e : (-(m : Int)).natAbs = m := by simp
      rw [if_pos hn, e]
      exact Shorten_neg m (by omega) (by omega) w
    · obtain ⟨m, rfl⟩ := Int.eq_ofNat_of_zero_le (show 0 ≤ v by omega)
      rw [if_neg hn, Int.natAbs_natCast]
      exact (Shorten_pos m (by omega) w).mono fun e w' ⟨he, hw⟩ => ⟨he, 0, hw.symm⟩
theorem RefShorten_any (v : Int) (w : World) : Calls Try.prog 24 #[.int .i64 v] w fun e w' => e = .returned (.tuple #[.int .i64 (short v).1, .int .i64 (short v).2]) ∧ w = w' := by
  unfold short
  by_cases h : 32767 < v ∨ v < -32767
  · rw [if_pos h]
    exact RefShorten_out v h w
  · rw [if_neg h]
    by_cases hn : v < 0
    · obtain ⟨m, rfl⟩ : ∃ m : Nat, v = -(m : Int) := ⟨v.natAbs, by omega⟩
      have e : (-(m : Int)).natAbs = m := by simp
      rw [if_pos hn, e]
      exact RefShorten_neg m (by omega) (by omega) w
    · obtain ⟨m, rfl⟩ := Int.eq_ofNat_of_zero_le (show 0 ≤ v by omega)
      rw [if_neg hn, Int.natAbs_natCast]
      exact RefShorten_pos m (by omega) w

set_option maxHeartbeats 1000000 in
theorem Extend_any (v n : Int) (w : World) : Calls Try.prog 25 #[.int .i64 v, .int .i64 n] w fun e w' => e = .returned (.int .i64 (ext v n)) ∧ w = w' := by
  unfold ext
  by_cases h1 : n < 1
  · rw [if_pos (.inl h1)]
    go_enter Try.func25, Try.ntmps25
    go_wp2
    go_ret
    exact ⟨rfl, rfl⟩
  by_cases h2 : 15 < n
  · rw [if_pos (.inr h2)]
    go_enter Try.func25, Try.ntmps25
    go_wp2
    go_ret
    exact ⟨rfl, rfl⟩
  rw [if_neg (by omega)]
  by_cases h3 : v < 0
  · rw [if_pos (.inl h3)]
    go_enter Try.func25, Try.ntmps25
    go_wp2
    go_ret
    exact ⟨rfl, rfl⟩
  obtain ⟨m, rfl⟩ := Int.eq_ofNat_of_zero_le (show 0 ≤ n by omega)
  obtain ⟨x, rfl⟩ := Int.eq_ofNat_of_zero_le (show 0 ≤ v by omega)
  rw [Int.toNat_natCast]
  have hm1 : 1 ≤ m := by omega
  have hm : m ≤ 15 := by omega
  have hp := pow_le15 m hm
  have hp1 := pow_le15 (m - 1) (by omega)
  have hw := pow15 m hm
  have hw1 := pow15 (m - 1) (by omega)
  have hs : (m : Int) - 1 = ((m - 1 : Nat) : Int) := by omega
  have e2 : ((2 ^ m : Nat) : Int) = (2 : Int) ^ m := by simp
  have e3 : ((2 ^ (m - 1) : Nat) : Int) = (2 : Int) ^ (m - 1) := by simp
  by_cases h4 : (2 : Int) ^ m ≤ (x : Int)
  · rw [if_pos (.inr (by rw [e2]; exact h4))]
    clear e2 e3
    go_enter Try.func25, Try.ntmps25
    go_wp2
    go_ret
    exact ⟨rfl, rfl⟩
  rw [if_neg (by rw [e2]; omega)]
  by_cases h5 : (2 : Int) ^ (m - 1) ≤ (x : Int)
  · rw [if_pos (by rw [e3]; exact h5)]
    have h6 : ¬ (x : Int) < (2 : Int) ^ (m - 1) := by omega
    clear e2 e3 h5
    go_enter Try.func25, Try.ntmps25
    go_wp2
    go_ret
    exact ⟨rfl, rfl⟩
  · rw [if_neg (by rw [e3]; exact h5)]
    have h6 : (x : Int) < (2 : Int) ^ (m - 1) := by omega
    have HX : Hid (wrap64 (wrap64 ((x : Int) - 2 ^ m) + 1) = (x : Int) - ((2 ^ m : Nat) : Int) + 1) := by
      unfold Hid
      rw [← e2] at h4 ⊢
      generalize 2 ^ m = p at *
      unfold wrap64
      omega
    clear e2 e3 h5
    go_enter Try.func25, Try.ntmps25
    go_wp2
    go_ret
    exact ⟨ret_int HX.out, rfl⟩

set_option maxHeartbeats 1000000 in
theorem RefExtend_any (v n : Int) (w : World) : Calls Try.prog 26 #[.int .i64 v, .int .i64 n] w fun e w' => e = .returned (.int .i64 (ext v n)) ∧ w = w' := by
  obtain ⟨R, hR⟩ : ∃ R, R = ext v n := ⟨_, rfl⟩
  rw [← hR]
  unfold ext at hR
  by_cases h1 : n < 1
  · rw [if_pos (.inl h1)] at hR
    subst hR
    go_enter Try.func26, Try.ntmps26
    go_wp2
    go_ret
    exact ⟨rfl, rfl⟩
  by_cases h2 : 15 < n
  · rw [if_pos (.inr h2)] at hR
    subst hR
    go_enter Try.func26, Try.ntmps26
    go_wp2
    go_ret
    exact ⟨rfl, rfl⟩
  rw [if_neg (by omega)] at hR
  obtain ⟨m, rfl⟩ := Int.eq_ofNat_of_zero_le (show 0 ≤ n by omega)
  rw [Int.toNat_natCast] at hR
  have hm1 : 1 ≤ m := by omega
  have hm : m ≤ 15 := by omega
  have HR := Lib.hid hR
  clear hR
  go_enter Try.func26, Try.ntmps26
  go_wp2
  clear h1 h2
  go_loop [5, 6] (fun p i => ∃ j : Nat, j ≤ m ∧ i = .int .i64 j ∧ p = .int .i64 (2 ^ j : Nat)) (fun _ i => m - (intOf i).toNat)
  case atStart => exact ⟨0, by omega, rfl, rfl⟩
  case round =>
    obtain ⟨j, hj, rfl, rfl⟩ := hrel
    have hp := pow_le15 j (by omega)
    by_cases e : j < m
    · have HP := Lib.hid (show 2 ^ (j + 1) = 2 ^ j * 2 from Nat.pow_succ ..)
      generalize 2 ^ j = p at *
      go_wp2
      go_round
      case rel => exact ⟨j + 1, by omega, by go_num, by rw [HP.out]; go_num⟩
      case measure => simp [intOf]; omega
    · obtain rfl : j = m := by omega
      have h3 : 2 ^ j = 2 * 2 ^ (j - 1) := by
        obtain ⟨k, rfl⟩ : ∃ k, j = k + 1 := ⟨j - 1, by omega⟩
        rw [Nat.pow_succ, Nat.mul_comm]
        rfl
      have hR := HR.out
      rw [h3] at hR hp ⊢
      clear e hj
      generalize 2 ^ (j - 1) = q at *
      clear h3 HR
      have hq : q ≤ 16384 := by omega
      by_cases h4 : v < 0
      · rw [if_pos (.inl h4)] at hR
        have HR := Lib.hid hR
        clear hR
        go_wp2
        go_ret
        exact ⟨by rw [HR.out]; rfl, rfl⟩
      by_cases h5 : ((2 * q : Nat) : Int) ≤ v
      · rw [if_pos (.inr h5)] at hR
        have HR := Lib.hid hR
        clear hR
        go_wp2
        go_ret
        exact ⟨by rw [HR.out]; rfl, rfl⟩
      rw [if_neg (by omega)] at hR
      have hdiv : ((2 * q : Nat) : Int) / 2 = (q : Int) := by omega
      by_cases h6 : (q : Int) ≤ v
      · rw [if_pos h6] at hR
        have HR := Lib.hid hR
        clear hR
        go_wp2
        go_ret
        exact ⟨by rw [HR.out]; rfl, rfl⟩
      · rw [if_neg h6] at hR
        have HR := Lib.hid hR
        clear hR
        go_wp2
        go_ret
        exact ⟨by rw [HR.out]; exact ret_int (by omega), rfl⟩
end Go.Proofs.Ytmoennlpendknaa
