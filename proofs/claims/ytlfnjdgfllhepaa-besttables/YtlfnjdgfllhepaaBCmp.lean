/- Comparing symbols by their lengths, then by their numbers: cmp.Compare, cmp.Or and the program's closure. -/
import Derived.Test.YtlfnjdgfllhepaaBCounts
namespace Go.Proofs.Ytlfnjdgfllhepaa
open Go.RowKit

/-- How two numbers compare. -/
def cmpN (x y : Nat) : Int := if x < y then -1 else if y < x then 1 else 0
theorem cmpN_lt {x y : Nat} (h : x < y) : cmpN x y = -1 := if_pos h
theorem cmpN_gt {x y : Nat} (h : y < x) : cmpN x y = 1 := by
  unfold cmpN
  rw [if_neg (by omega), if_pos h]
theorem cmpN_eq (x : Nat) : cmpN x x = 0 := by
  unfold cmpN
  rw [if_neg (by omega), if_neg (by omega)]

theorem isNaN_int (x : Nat) (w : World) : Calls Try.prog 40 #[.int .i64 x] w fun e w' => e = .returned (.bool false) ∧ w = w' := by
  go_enter Try.func40, Try.ntmps40
  go_wp2
  go_ret
  exact ⟨ret_bool (by simp), rfl⟩
theorem isNaN_byte (x : Nat) (w : World) : Calls Try.prog 41 #[.int .u8 x] w fun e w' => e = .returned (.bool false) ∧ w = w' := by
  go_enter Try.func41, Try.ntmps41
  go_wp2
  go_ret
  exact ⟨ret_bool (by simp), rfl⟩
set_option maxHeartbeats 1000000 in
theorem compare_int (x y : Nat) (w : World) : Calls Try.prog 34 #[.int .i64 x, .int .i64 y] w fun e w' => e = .returned (.int .i64 (cmpN x y)) ∧ w = w' := by
  have h1 := isNaN_int x w
  have h2 := isNaN_int y w
  rcases Nat.lt_trichotomy x y with h | h | h
  · rw [cmpN_lt h]
    go_enter Try.func34, Try.ntmps34
    go_wp2_with (go_at_call 40; first
      | (refine h1.mono ?_; rintro e w1 ⟨rfl, rfl⟩; clear h1)
      | (refine h2.mono ?_; rintro e w1 ⟨rfl, rfl⟩; clear h2))
    go_ret
    exact ⟨rfl, rfl⟩
  · subst h
    rw [cmpN_eq]
    go_enter Try.func34, Try.ntmps34
    go_wp2_with (go_at_call 40; first
      | (refine h1.mono ?_; rintro e w1 ⟨rfl, rfl⟩; clear h1)
      | (refine h2.mono ?_; rintro e w1 ⟨rfl, rfl⟩; clear h2))
    go_ret
    exact ⟨rfl, rfl⟩
  · rw [cmpN_gt h]
    have h' : ¬ x < y := by omega
    go_enter Try.func34, Try.ntmps34
    go_wp2_with (go_at_call 40; first
      | (refine h1.mono ?_; rintro e w1 ⟨rfl, rfl⟩; clear h1)
      | (refine h2.mono ?_; rintro e w1 ⟨rfl, rfl⟩; clear h2))
    go_ret
    exact ⟨rfl, rfl⟩
set_option maxHeartbeats 1000000 in
theorem compare_byte (x y : Nat) (w : World) : Calls Try.prog 35 #[.int .u8 x, .int .u8 y] w fun e w' => e = .returned (.int .i64 (cmpN x y)) ∧ w = w' := by
  have h1 := isNaN_byte x w
  have h2 := isNaN_byte y w
  rcases Nat.lt_trichotomy x y with h | h | h
  · rw [cmpN_lt h]
    go_enter Try.func35, Try.ntmps35
    go_wp2_with (go_at_call 41; first
      | (refine h1.mono ?_; rintro e w1 ⟨rfl, rfl⟩; clear h1)
      | (refine h2.mono ?_; rintro e w1 ⟨rfl, rfl⟩; clear h2))
    go_ret
    exact ⟨rfl, rfl⟩
  · subst h
    rw [cmpN_eq]
    go_enter Try.func35, Try.ntmps35
    go_wp2_with (go_at_call 41; first
      | (refine h1.mono ?_; rintro e w1 ⟨rfl, rfl⟩; clear h1)
      | (refine h2.mono ?_; rintro e w1 ⟨rfl, rfl⟩; clear h2))
    go_ret
    exact ⟨rfl, rfl⟩
  · rw [cmpN_gt h]
    have h' : ¬ x < y := by omega
    go_enter Try.func35, Try.ntmps35
    go_wp2_with (go_at_call 41; first
      | (refine h1.mono ?_; rintro e w1 ⟨rfl, rfl⟩; clear h1)
      | (refine h2.mono ?_; rintro e w1 ⟨rfl, rfl⟩; clear h2))
    go_ret
    exact ⟨rfl, rfl⟩
/-- The first that isn't 0. -/
def or2 (a b : Int) : Int := if a = 0 then b else a
set_option maxHeartbeats 1000000 in
theorem or_two (g : Nat) (a b : Int) (w : World) (h0 : w.cell? ⟨g, 0, none⟩ = some (.int .i64 a)) (h1 : w.cell? ⟨g, 1, none⟩ = some (.int .i64 b)) :
    Calls Try.prog 33 #[.slice (some ⟨g, 0, none⟩) 2 2] w fun e w' => e = .returned (.int .i64 (or2 a b)) ∧ w = w' := by
  have HA := Lib.hid h0
  have HB := Lib.hid h1
  clear h0 h1
  go_enter Try.func33, Try.ntmps33
  go_wp2
  go_loop [8] (fun i => ∃ n : Nat, n ≤ 2 ∧ i = .int .i64 n ∧ (1 ≤ n → a = 0) ∧ (2 ≤ n → b = 0)) (fun i => 2 - (intOf i).toNat)
  case atStart => exact ⟨0, by omega, rfl, fun h => by omega, fun h => by omega⟩
  case round =>
    obtain ⟨n, hn, rfl, h1, h2⟩ := hrel
    by_cases e0 : n = 0
    · subst e0
      clear h1 h2
      have x0 := HA.out
      by_cases ha : a = 0
      · rw [ha] at x0
        have HA0 := Lib.hid ha
        clear ha
        go_wp2
        go_round
        case rel => exact ⟨1, by omega, rfl, fun _ => HA0.out, fun h => by omega⟩
        case measure => simp [intOf]
      · have e1 : (a == 0) = false := by rw [beq_eq_false_iff_ne]; exact ha
        have HR : Hid (or2 a b = a) := if_neg ha
        go_wp2
        go_ret
        exact ⟨by rw [HR.out]; rfl, rfl⟩
    · by_cases e1 : n = 1
      · subst e1
        have HA0 := Lib.hid (h1 (by omega))
        clear h1 h2 e0
        have x0 := HB.out
        have HR : Hid (or2 a b = b) := if_pos HA0.out
        by_cases hb : b = 0
        · rw [hb] at x0
          have HB0 := Lib.hid hb
          clear hb
          go_wp2
          go_round
          case rel => exact ⟨2, by omega, rfl, fun _ => HA0.out, fun _ => HB0.out⟩
          case measure => simp [intOf]
        · have e1 : (b == 0) = false := by rw [beq_eq_false_iff_ne]; exact hb
          go_wp2
          go_ret
          exact ⟨by rw [HR.out]; rfl, rfl⟩
      · obtain rfl : n = 2 := by omega
        obtain rfl := h1 (by omega)
        obtain rfl := h2 (by omega)
        clear h1 h2 e0 e1
        go_wp2
        go_ret
        exact ⟨rfl, rfl⟩
end Go.Proofs.Ytlfnjdgfllhepaa
