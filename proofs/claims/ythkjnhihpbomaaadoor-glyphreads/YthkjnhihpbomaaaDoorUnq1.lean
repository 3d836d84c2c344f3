/- Walks of package glyph: digit, expect, number, unquoteByte. -/
import Derived.Test.YthkjnhihpbomaaaDoorUnqPlain
import Derived.Test.YthkjnhihpbomaaaDoorRefRune2
import Derived.Test.YthkjnhihpbomaaaDoorWalk3
namespace Go.Proofs.YthkjnhihpbomaaaDoor
open Go.RowKit

theorem idx_byt (s : ByteArray) (p : Nat) (hp : p < s.size) (z : Int) (hz : z = (p : Int)) (W : World) : (Instr.index 9 (.string s) (.int .i64 z)).run Tryd.prog W = .ok (.int .u8 (byt s p : Int)) W := idx_str s p hp z hz W

theorem ret_ib {a a' : Int} {b b' : Bool} (h : a = a') (h2 : b = b') : Ending.returned (.tuple #[.int .i64 a, .bool b]) = .returned (.tuple #[.int .i64 a', .bool b']) := by rw [h, h2]

set_option maxRecDepth 100000 in
set_option maxHeartbeats 1000000 in
theorem digit_any (c : Nat) (hc : c < 256) (w : World) : Calls Tryd.prog 52 #[.int .u8 c] w fun e w' => e = .returned (.tuple #[.int .i64 (digV c : Nat), .bool (digOk c)]) ∧ w' = w := by
  have hcases : (c : Int) ≤ 47 ∨ (48 ≤ (c : Int) ∧ (c : Int) ≤ 57) ∨ (58 ≤ (c : Int) ∧ (c : Int) ≤ 96) ∨ (97 ≤ (c : Int) ∧ (c : Int) ≤ 102) ∨ 103 ≤ (c : Int) := by omega
  rcases hcases with h | ⟨h, h'⟩ | ⟨h, h'⟩ | ⟨h, h'⟩ | h
  · have hv : digV c = 0 := by
      unfold digV
      repeat' split
      all_goals omega
    have hk : digOk c = false := decide_eq_false (by omega)
    have t0 : decide (48 ≤ (c : Int)) = false := decide_eq_false (by omega)
    have t1 : decide ((c : Int) ≤ 57) = true := decide_eq_true (by omega)
    have t2 : decide (97 ≤ (c : Int)) = false := decide_eq_false (by omega)
    have t3 : decide ((c : Int) ≤ 102) = true := decide_eq_true (by omega)
    rw [hv, hk]
    clear hv hk
    go_enter Tryd.func52, Tryd.ntmps52
    go_wp2
    go_ret2
    exact ⟨rfl, rfl⟩
  · have hv : digV c = c - 48 := by
      unfold digV
      repeat' split
      all_goals omega
    have hk : digOk c = true := decide_eq_true (by omega)
    have t0 : decide (48 ≤ (c : Int)) = true := decide_eq_true (by omega)
    have t1 : decide ((c : Int) ≤ 57) = true := decide_eq_true (by omega)
    have t2 : decide (97 ≤ (c : Int)) = false := decide_eq_false (by omega)
    have t3 : decide ((c : Int) ≤ 102) = true := decide_eq_true (by omega)
    have hz : ((c - 48 : Nat) : Int) = (c : Int) - 48 := by omega
    rw [hv, hk, hz]
    clear hv hk hz
    go_enter Tryd.func52, Tryd.ntmps52
    go_wp2
    go_ret2
    exact ⟨rfl, rfl⟩
  · have hv : digV c = 0 := by
      unfold digV
      repeat' split
      all_goals omega
    have hk : digOk c = false := decide_eq_false (by omega)
    have t0 : decide (48 ≤ (c : Int)) = true := decide_eq_true (by omega)
    have t1 : decide ((c : Int) ≤ 57) = false := decide_eq_false (by omega)
    have t2 : decide (97 ≤ (c : Int)) = false := decide_eq_false (by omega)
    have t3 : decide ((c : Int) ≤ 102) = true := decide_eq_true (by omega)
    rw [hv, hk]
    clear hv hk
    go_enter Tryd.func52, Tryd.ntmps52
    go_wp2
    go_ret2
    exact ⟨rfl, rfl⟩
  · have hv : digV c = c - 87 := by
      unfold digV
      repeat' split
      all_goals omega
    have hk : digOk c = true := decide_eq_true (by omega)
    have t0 : decide (48 ≤ (c : Int)) = true := decide_eq_true (by omega)
    have t1 : decide ((c : Int) ≤ 57) = false := decide_eq_false (by omega)
    have t2 : decide (97 ≤ (c : Int)) = true := decide_eq_true (by omega)
    have t3 : decide ((c : Int) ≤ 102) = true := decide_eq_true (by omega)
    have hz : ((c - 87 : Nat) : Int) = (c : Int) - 87 := by omega
    rw [hv, hk, hz]
    clear hv hk hz
    go_enter Tryd.func52, Tryd.ntmps52
    go_wp2
    go_ret2
    exact ⟨ret_ib (by omega) rfl, rfl⟩
  · have hv : digV c = 0 := by
      unfold digV
      repeat' split
      all_goals omega
    have hk : digOk c = false := decide_eq_false (by omega)
    have t0 : decide (48 ≤ (c : Int)) = true := decide_eq_true (by omega)
    have t1 : decide ((c : Int) ≤ 57) = false := decide_eq_false (by omega)
    have t2 : decide (97 ≤ (c : Int)) = true := decide_eq_true (by omega)
    have t3 : decide ((c : Int) ≤ 102) = false := decide_eq_false (by omega)
    rw [hv, hk]
    clear hv hk
    go_enter Tryd.func52, Tryd.ntmps52
    go_wp2
    go_ret2
    exact ⟨rfl, rfl⟩

set_option maxHeartbeats 1000000 in
theorem expect_short (s : ByteArray) (c : Nat) (w : World) : Calls Tryd.prog 32 #[.string s, .int .i64 (s.size : Nat), .int .u8 c] w fun e w' => e = .returned (.tuple #[.int .i64 (s.size : Nat), .int .i64 2]) ∧ w' = w := by
  go_enter Tryd.func32, Tryd.ntmps32
  go_wp2
  go_ret2
  exact ⟨rfl, rfl⟩
set_option maxHeartbeats 1000000 in
theorem expect_wrong (s : ByteArray) (_hs : s.size ≤ 1000000) (p c : Nat) (hp : p < s.size) (hc : ((byt s p : Int) != (c : Int)) = true) (w : World) : Calls Tryd.prog 32 #[.string s, .int .i64 p, .int .u8 c] w fun e w' => e = .returned (.tuple #[.int .i64 p, .int .i64 16]) ∧ w' = w := by
  have hix := idx_byt s p hp (p : Int) rfl
  generalize byt s p = b at hc hix
  go_enter Tryd.func32, Tryd.ntmps32
  go_wp2
  go_ret2
  exact ⟨rfl, rfl⟩
set_option maxHeartbeats 1000000 in
theorem expect_right (s : ByteArray) (_hs : s.size ≤ 1000000) (p c : Nat) (hp : p < s.size) (hc : byt s p = c) (w : World) : Calls Tryd.prog 32 #[.string s, .int .i64 p, .int .u8 c] w fun e w' => e = .returned (.tuple #[.int .i64 ((p : Int) + 1), .int .i64 0]) ∧ w' = w := by
  have hix := idx_byt s p hp (p : Int) rfl
  rw [hc] at hix
  clear hc
  go_enter Tryd.func32, Tryd.ntmps32
  go_wp2
  go_ret2
  exact ⟨rfl, rfl⟩

set_option maxHeartbeats 2000000 in
theorem number_any (s : ByteArray) (hs : s.size ≤ 1000000) (p : Nat) (hp : p ≤ s.size) (w : World) :
    Calls Tryd.prog 53 #[.string s, .int .i64 p] w fun e w' => e = .returned (.tuple #[.int .i64 ((num s 6 p 0).1 : Nat), .int .i64 ((num s 6 p 0).2 : Nat)]) ∧ w' = w := by
  go_enter Tryd.func53, Tryd.ntmps53
  go_wp2
  go_loopw [6, 7] (fun a i wr => ∃ (f q n : Nat), a = .int .i64 n ∧ i = .int .i64 q ∧ wr = w ∧ q + f = p + 6 ∧ p ≤ q ∧ q ≤ s.size ∧ n < 16 ^ (6 - f) ∧ f ≤ 6 ∧ num s f q n = num s 6 p 0) (fun _ i _ => p + 6 - (intOf i).toNat)
  case atStart => exact ⟨6, p, 0, rfl, rfl, rfl, rfl, Nat.le_refl _, hp, by simp, Nat.le_refl _, rfl⟩
  case round =>
    obtain ⟨f, q, n, rfl, rfl, hw, hqf, hpq, hq, hn, hf6, hnum⟩ := hrel
    subst hw
    have Hn := Lib.hid hn
    have hn24 : n < 16777216 := by
      have : 16 ^ (6 - f) ≤ 16 ^ 6 := Nat.pow_le_pow_right (by omega) (by omega)
      omega
    clear hn
    have Hx := Lib.hid hnum
    clear hnum
    by_cases hq1 : q < s.size
    · by_cases hf : f = 0
      · subst hf
        have h1 : ¬ ((q : Int) < (p : Int) + 6) := by omega
        have h2 : decide ((q : Int) < (p : Int) + 6) = false := decide_eq_false h1
        have Hr : Hid (num s 6 p 0 = (n, q)) := by rw [← Hx.out]; rfl
        go_wp2
        go_ret2
        exact ⟨by rw [Hr.out]; rfl, rfl⟩
      · obtain ⟨f, rfl⟩ : ∃ f', f = f' + 1 := ⟨f - 1, by omega⟩
        have h2 : decide ((q : Int) < (p : Int) + 6) = true := decide_eq_true (by omega)
        have hix := idx_byt s q hq1 (q : Int) rfl
        have hb := byt_lt s q
        have hstep : num s (f + 1) q n = if digOk (byt s q) = true then (if n * 16 + digV (byt s q) = 0 then (0, q + 1) else num s f (q + 1) (n * 16 + digV (byt s q))) else (n, q) := by
          rw [num]; simp [hq1]
        have hdv := digV_lt (byt s q)
        have hdg := digit_any (byt s q) hb wr
        generalize byt s q = b at hix hstep hdv hdg
        cases hok : digOk b
        · rw [hok] at hdg hstep
          have Hr : Hid (num s 6 p 0 = (n, q)) := by rw [← Hx.out, hstep]; rfl
          have Hd := Lib.hid hdg
          clear hdg hstep hok
          generalize digV b = d at Hd hdv
          go_wp2_with (go_at_call 52; refine Hd.out.mono ?_; rintro e w' ⟨rfl, rfl⟩)
          go_ret2
          exact ⟨by rw [Hr.out]; rfl, rfl⟩
        · rw [hok] at hdg hstep
          have Hd := Lib.hid hdg
          generalize digV b = d at Hd hdv hstep hdg
          by_cases h0 : n * 16 + d = 0
          · obtain rfl : n = 0 := by omega
            obtain rfl : d = 0 := by omega
            have Hr : Hid (num s 6 p 0 = (0, q + 1)) := by rw [← Hx.out, hstep]; rfl
            clear hdg hstep hok h0
            go_wp2_with (go_at_call 52; refine Hd.out.mono ?_; rintro e w' ⟨rfl, rfl⟩)
            go_ret2
            exact ⟨by rw [Hr.out]; rfl, rfl⟩
          · have Hr : Hid (num s f (q + 1) (n * 16 + d) = num s 6 p 0) := by rw [← Hx.out, hstep, if_pos rfl, if_neg h0]; rfl
            have h0' : (((n : Int) * 16 + (d : Int)) == 0) = false := beq_eq_false_iff_ne.2 (by omega)
            clear hdg hstep hok h0
            go_wp2_with (go_at_call 52; refine Hd.out.mono ?_; rintro e w' ⟨rfl, rfl⟩)
            go_roundw
            case rel =>
              refine ⟨f, q + 1, n * 16 + d, by go_num, by go_num, trivial, by omega, by omega, by omega, ?_, by omega, Hr.out⟩
              have := Hn.out
              rw [show 6 - f = 6 - (f + 1) + 1 by omega, Nat.pow_succ]
              omega
            case measure => simp [intOf]; omega
    · have Hr : Hid (num s 6 p 0 = (n, q)) := by
        rw [← Hx.out]
        cases f with
        | zero => rfl
        | succ f => rw [num, if_neg (by omega)]; rfl
      have hqs : ¬ ((q : Int) < (s.size : Int)) := by omega
      have hqd : decide ((q : Int) < (s.size : Int)) = false := decide_eq_false hqs
      go_wp2
      go_ret2
      exact ⟨by rw [Hr.out]; rfl, rfl⟩
end Go.Proofs.YthkjnhihpbomaaaDoor
