/- A walk: the document's rune at a place. -/
import Derived.Test.YthkjnhihpbomaaaDoorRefPlain
import Derived.Test.YthkjnhihpbomaaaDoorWalk
namespace Go.Proofs.YthkjnhihpbomaaaDoor
open Go.RowKit

theorem ret_two {a b a' b' : Int} (h : a = a') (h2 : b = b') : Ending.returned (.tuple #[.int .i64 a, .int .i64 b]) = .returned (.tuple #[.int .i64 a', .int .i64 b']) := by rw [h, h2]

/-- A byte of a text, for the walk to take. -/
theorem idx_str (s : ByteArray) (p : Nat) (hp : p < s.size) (z : Int) (hz : z = (p : Int)) (W : World) : (Instr.index 9 (.string s) (.int .i64 z)).run Tryd.prog W = .ok (.int .u8 ((s.get! p).toNat : Int)) W := by
  subst hz
  rw [run_index_string W 9 s .i64 _ Tryd.underlying9, dif_pos ⟨by omega, by omega⟩, Utf8W.get!_of_lt s p hp]
  rfl

set_option maxRecDepth 100000 in
set_option maxHeartbeats 1000000 in
theorem Rune_1 (s : ByteArray) (p b0 : Nat) (w : World) (i0 : ∀ W, (Instr.index 9 (.string s) (.int .i64 (p : Int))).run Tryd.prog W = .ok (.int .u8 (b0 : Int)) W) (h0 : (b0 : Int) < 128) :
    Calls Tryd.prog 38 #[.string s, .int .i64 p] w fun e w' => e = .returned (.tuple #[.int .i64 b0, .int .i64 1]) ∧ w' = w := by
  go_enter Tryd.func38, Tryd.ntmps38
  go_wp2
  go_ret2
  exact ⟨rfl, rfl⟩

set_option maxRecDepth 100000 in
set_option maxHeartbeats 1000000 in
theorem Rune_none (s : ByteArray) (p b0 : Nat) (w : World) (hb : b0 < 256) (i0 : ∀ W, (Instr.index 9 (.string s) (.int .i64 (p : Int))).run Tryd.prog W = .ok (.int .u8 (b0 : Int)) W) (h0 : (128 ≤ (b0 : Int) ∧ (b0 : Int) < 194) ∨ 245 ≤ (b0 : Int)) :
    Calls Tryd.prog 38 #[.string s, .int .i64 p] w fun e w' => e = .returned (.tuple #[.int .i64 (-1), .int .i64 1]) ∧ w' = w := by
  rcases h0 with ⟨h0, h1⟩ | h0
  all_goals
    go_enter Tryd.func38, Tryd.ntmps38
    go_wp2
    go_ret2
    exact ⟨rfl, rfl⟩

set_option maxRecDepth 100000 in
set_option maxHeartbeats 1000000 in
/-- Too few bytes are left. -/
theorem Rune_short (s : ByteArray) (_hs : s.size ≤ 1000000) (p b0 : Nat) (hp : p < s.size) (w : World) (i0 : ∀ W, (Instr.index 9 (.string s) (.int .i64 (p : Int))).run Tryd.prog W = .ok (.int .u8 (b0 : Int)) W)
    (h0 : (194 ≤ (b0 : Int) ∧ (b0 : Int) < 224 ∧ (s.size : Int) - p ≤ 1) ∨ (224 ≤ (b0 : Int) ∧ (b0 : Int) < 240 ∧ (s.size : Int) - p ≤ 2) ∨ (240 ≤ (b0 : Int) ∧ (b0 : Int) < 245 ∧ (s.size : Int) - p ≤ 3)) :
    Calls Tryd.prog 38 #[.string s, .int .i64 p] w fun e w' => e = .returned (.tuple #[.int .i64 (-1), .int .i64 1]) ∧ w' = w := by
  rcases h0 with ⟨h0, h1, h2⟩ | ⟨h0, h1, h2⟩ | ⟨h0, h1, h2⟩
  all_goals
    go_enter Tryd.func38, Tryd.ntmps38
    go_wp2
    go_ret2
    exact ⟨rfl, rfl⟩

/-- The number behind so many more bytes. -/
def contv (s : ByteArray) (p : Nat) (c : Int) : Nat → Int
  | 0 => c
  | k + 1 => contv s p c k * 64 + ((s.get! (p + (k + 1))).toNat : Int) - 128
/-- A byte that goes on with a rune. -/
def cont (s : ByteArray) (p j : Nat) : Prop := 128 ≤ ((s.get! (p + j)).toNat : Int) ∧ ((s.get! (p + j)).toNat : Int) ≤ 191

set_option maxRecDepth 100000 in
set_option maxHeartbeats 2000000 in
theorem Rune_c1 (s : ByteArray) (hs : s.size ≤ 1000000) (p b0 : Nat) (hp : p + 1 < s.size) (w : World) (i0 : ∀ W, (Instr.index 9 (.string s) (.int .i64 (p : Int))).run Tryd.prog W = .ok (.int .u8 (b0 : Int)) W) (h0 : 194 ≤ (b0 : Int)) (h1 : (b0 : Int) < 224) (R K : Int)
    (hbad : Hid (∀ j, 1 ≤ j → j ≤ 1 → ¬ cont s p j → R = -1 ∧ K = 1))
    (hno : Hid ((∀ j, 1 ≤ j → j ≤ 1 → cont s p j) → ∀ c, c = contv s p ((b0 : Int) - 192) 1 → (c < 128 ∨ 1114111 < c ∨ (55296 ≤ c ∧ c ≤ 57343)) → R = -1 ∧ K = 1))
    (hyes : Hid ((∀ j, 1 ≤ j → j ≤ 1 → cont s p j) → ∀ c, c = contv s p ((b0 : Int) - 192) 1 → ¬ (c < 128 ∨ 1114111 < c ∨ (55296 ≤ c ∧ c ≤ 57343)) → R = c ∧ K = 2)) :
    Calls Tryd.prog 38 #[.string s, .int .i64 p] w fun e w' => e = .returned (.tuple #[.int .i64 R, .int .i64 K]) ∧ w' = w := by
  go_enter Tryd.func38, Tryd.ntmps38
  go_wp2
  go_loop [6, 9] (fun c i => ∃ (k : Nat) (cv : Int), i = .int .i64 ((k : Int) + 1) ∧ k ≤ 1 ∧ c = .int .i64 cv ∧ 0 ≤ cv ∧ cv < 32 * 64 ^ k ∧ cv = contv s p ((b0 : Int) - 192) k ∧ (∀ j, 1 ≤ j → j ≤ k → cont s p j)) (fun _ i => 2 - (intOf i).toNat)
  case atStart => exact ⟨0, (b0 : Int) - 192, rfl, by omega, rfl, by omega, by omega, rfl, fun j h1 h2 => by omega⟩
  case round =>
    obtain ⟨k, cv, rfl, hk, rfl, hc0, hc1, hcv, hok⟩ := hrel
    have Hcv := Lib.hid hcv
    have Hok := Lib.hid hok
    have hc2 : cv < 8388608 := by
      have : k = 0 ∨ k = 1 ∨ k = 2 ∨ k = 3 := by omega
      rcases this with rfl | rfl | rfl | rfl <;> omega
    have Hc1 := Lib.hid hc1
    clear hcv hok hc1
    by_cases hkn : k < 1
    · obtain ⟨b, hb⟩ : ∃ b, (s.get! (p + (k + 1))).toNat = b := ⟨_, rfl⟩
      have hb256 : b < 256 := by rw [← hb]; exact (s.get! (p + (k + 1))).toNat_lt
      have ix := idx_str s (p + (k + 1)) (by omega) ((p : Int) + ((k : Int) + 1)) (by omega)
      rw [hb] at ix
      have Hb := Lib.hid hb
      clear hb
      by_cases hbb : 128 ≤ (b : Int) ∧ (b : Int) ≤ 191
      · obtain ⟨hb1, hb2⟩ := hbb
        go_wp2
        go_round
        case rel =>
          refine ⟨k + 1, cv * 64 + (b : Int) - 128, by go_num, by omega, by go_num, by omega, ?_, ?_, ?_⟩
          · have := Hc1.out
            rw [Int.pow_succ]; omega
          · rw [contv, ← Hcv.out, Hb.out]
          · intro j j1 j2
            by_cases hj : j = k + 1
            · subst hj; unfold cont; rw [Hb.out]; exact ⟨hb1, hb2⟩
            · exact Hok.out j j1 (by omega)
        case measure => simp [intOf]; omega
      · have hx := hbad.out (k + 1) (by omega) (by omega) (by unfold cont; rw [Hb.out]; exact hbb)
        have Hx := Lib.hid hx
        clear hx
        have hbb : (b : Int) < 128 ∨ 191 < (b : Int) := by omega
        rcases hbb with hbb | hbb
        all_goals
          go_wp2
          go_ret2
          exact ⟨ret_two Hx.out.1.symm Hx.out.2.symm, rfl⟩
    · obtain rfl : k = 1 := by omega
      by_cases hx : cv < 128 ∨ 1114111 < cv ∨ (55296 ≤ cv ∧ cv ≤ 57343)
      · have Hx := Lib.hid (hno.out Hok.out cv Hcv.out hx)
        rcases hx with hx | hx | ⟨hx, hy⟩
        all_goals
          go_wp2
          go_ret2
          exact ⟨ret_two Hx.out.1.symm Hx.out.2.symm, rfl⟩
      · have Hx := Lib.hid (hyes.out Hok.out cv Hcv.out hx)
        have hx1 : 128 ≤ cv := by omega
        have hx2 : cv ≤ 1114111 := by omega
        have hx3 : cv < 55296 ∨ 57343 < cv := by omega
        clear hx
        rcases hx3 with hx3 | hx3
        all_goals
          go_wp2
          go_ret2
          exact ⟨ret_two Hx.out.1.symm Hx.out.2.symm, rfl⟩

set_option maxRecDepth 100000 in
set_option maxHeartbeats 2000000 in
theorem Rune_c2 (s : ByteArray) (hs : s.size ≤ 1000000) (p b0 : Nat) (hp : p + 2 < s.size) (w : World) (i0 : ∀ W, (Instr.index 9 (.string s) (.int .i64 (p : Int))).run Tryd.prog W = .ok (.int .u8 (b0 : Int)) W) (h0 : 224 ≤ (b0 : Int)) (h1 : (b0 : Int) < 240) (R K : Int)
    (hbad : Hid (∀ j, 1 ≤ j → j ≤ 2 → ¬ cont s p j → R = -1 ∧ K = 1))
    (hno : Hid ((∀ j, 1 ≤ j → j ≤ 2 → cont s p j) → ∀ c, c = contv s p ((b0 : Int) - 224) 2 → (c < 2048 ∨ 1114111 < c ∨ (55296 ≤ c ∧ c ≤ 57343)) → R = -1 ∧ K = 1))
    (hyes : Hid ((∀ j, 1 ≤ j → j ≤ 2 → cont s p j) → ∀ c, c = contv s p ((b0 : Int) - 224) 2 → ¬ (c < 2048 ∨ 1114111 < c ∨ (55296 ≤ c ∧ c ≤ 57343)) → R = c ∧ K = 3)) :
    Calls Tryd.prog 38 #[.string s, .int .i64 p] w fun e w' => e = .returned (.tuple #[.int .i64 R, .int .i64 K]) ∧ w' = w := by
  go_enter Tryd.func38, Tryd.ntmps38
  go_wp2
  go_loop [6, 9] (fun c i => ∃ (k : Nat) (cv : Int), i = .int .i64 ((k : Int) + 1) ∧ k ≤ 2 ∧ c = .int .i64 cv ∧ 0 ≤ cv ∧ cv < 32 * 64 ^ k ∧ cv = contv s p ((b0 : Int) - 224) k ∧ (∀ j, 1 ≤ j → j ≤ k → cont s p j)) (fun _ i => 3 - (intOf i).toNat)
  case atStart => exact ⟨0, (b0 : Int) - 224, rfl, by omega, rfl, by omega, by omega, rfl, fun j h1 h2 => by omega⟩
  case round =>
    obtain ⟨k, cv, rfl, hk, rfl, hc0, hc1, hcv, hok⟩ := hrel
    have Hcv := Lib.hid hcv
    have Hok := Lib.hid hok
    have hc2 : cv < 8388608 := by
      have : k = 0 ∨ k = 1 ∨ k = 2 ∨ k = 3 := by omega
      rcases this with rfl | rfl | rfl | rfl <;> omega
    have Hc1 := Lib.hid hc1
    clear hcv hok hc1
    by_cases hkn : k < 2
    · obtain ⟨b, hb⟩ : ∃ b, (s.get! (p + (k + 1))).toNat = b := ⟨_, rfl⟩
      have hb256 : b < 256 := by rw [← hb]; exact (s.get! (p + (k + 1))).toNat_lt
      have ix := idx_str s (p + (k + 1)) (by omega) ((p : Int) + ((k : Int) + 1)) (by omega)
      rw [hb] at ix
      have Hb := Lib.hid hb
      clear hb
      by_cases hbb : 128 ≤ (b : Int) ∧ (b : Int) ≤ 191
      · obtain ⟨hb1, hb2⟩ := hbb
        go_wp2
        go_round
        case rel =>
          refine ⟨k + 1, cv * 64 + (b : Int) - 128, by go_num, by omega, by go_num, by omega, ?_, ?_, ?_⟩
          · have := Hc1.out
            rw [Int.pow_succ]; omega
          · rw [contv, ← Hcv.out, Hb.out]
          · intro j j1 j2
            by_cases hj : j = k + 1
            · subst hj; unfold cont; rw [Hb.out]; exact ⟨hb1, hb2⟩
            · exact Hok.out j j1 (by omega)
        case measure => simp [intOf]; omega
      · have hx := hbad.out (k + 1) (by omega) (by omega) (by unfold cont; rw [Hb.out]; exact hbb)
        have Hx := Lib.hid hx
        clear hx
        have hbb : (b : Int) < 128 ∨ 191 < (b : Int) := by omega
        rcases hbb with hbb | hbb
        all_goals
          go_wp2
          go_ret2
          exact ⟨ret_two Hx.out.1.symm Hx.out.2.symm, rfl⟩
    · obtain rfl : k = 2 := by omega
      by_cases hx : cv < 2048 ∨ 1114111 < cv ∨ (55296 ≤ cv ∧ cv ≤ 57343)
      · have Hx := Lib.hid (hno.out Hok.out cv Hcv.out hx)
        rcases hx with hx | hx | ⟨hx, hy⟩
        all_goals
          go_wp2
          go_ret2
          exact ⟨ret_two Hx.out.1.symm Hx.out.2.symm, rfl⟩
      · have Hx := Lib.hid (hyes.out Hok.out cv Hcv.out hx)
        have hx1 : 2048 ≤ cv := by omega
        have hx2 : cv ≤ 1114111 := by omega
        have hx3 : cv < 55296 ∨ 57343 < cv := by omega
        clear hx
        rcases hx3 with hx3 | hx3
        all_goals
          go_wp2
          go_ret2
          exact ⟨ret_two Hx.out.1.symm Hx.out.2.symm, rfl⟩

set_option maxRecDepth 100000 in
set_option maxHeartbeats 2000000 in
theorem Rune_c3 (s : ByteArray) (hs : s.size ≤ 1000000) (p b0 : Nat) (hp : p + 3 < s.size) (w : World) (i0 : ∀ W, (Instr.index 9 (.string s) (.int .i64 (p : Int))).run Tryd.prog W = .ok (.int .u8 (b0 : Int)) W) (h0 : 240 ≤ (b0 : Int)) (h1 : (b0 : Int) < 245) (R K : Int)
    (hbad : Hid (∀ j, 1 ≤ j → j ≤ 3 → ¬ cont s p j → R = -1 ∧ K = 1))
    (hno : Hid ((∀ j, 1 ≤ j → j ≤ 3 → cont s p j) → ∀ c, c = contv s p ((b0 : Int) - 240) 3 → (c < 65536 ∨ 1114111 < c ∨ (55296 ≤ c ∧ c ≤ 57343)) → R = -1 ∧ K = 1))
    (hyes : Hid ((∀ j, 1 ≤ j → j ≤ 3 → cont s p j) → ∀ c, c = contv s p ((b0 : Int) - 240) 3 → ¬ (c < 65536 ∨ 1114111 < c ∨ (55296 ≤ c ∧ c ≤ 57343)) → R = c ∧ K = 4)) :
    Calls Tryd.prog 38 #[.string s, .int .i64 p] w fun e w' => e = .returned (.tuple #[.int .i64 R, .int .i64 K]) ∧ w' = w := by
  go_enter Tryd.func38, Tryd.ntmps38
  go_wp2
  go_loop [6, 9] (fun c i => ∃ (k : Nat) (cv : Int), i = .int .i64 ((k : Int) + 1) ∧ k ≤ 3 ∧ c = .int .i64 cv ∧ 0 ≤ cv ∧ cv < 32 * 64 ^ k ∧ cv = contv s p ((b0 : Int) - 240) k ∧ (∀ j, 1 ≤ j → j ≤ k → cont s p j)) (fun _ i => 4 - (intOf i).toNat)
  case atStart => exact ⟨0, (b0 : Int) - 240, rfl, by omega, rfl, by omega, by omega, rfl, fun j h1 h2 => by omega⟩
  case round =>
    obtain ⟨k, cv, rfl, hk, rfl, hc0, hc1, hcv, hok⟩ := hrel
    have Hcv := Lib.hid hcv
    have Hok := Lib.hid hok
    have hc2 : cv < 8388608 := by
      have : k = 0 ∨ k = 1 ∨ k = 2 ∨ k = 3 := by omega
      rcases this with rfl | rfl | rfl | rfl <;> omega
    have Hc1 := Lib.hid hc1
    clear hcv hok hc1
    by_cases hkn : k < 3
    · obtain ⟨b, hb⟩ : ∃ b, (s.get! (p + (k + 1))).toNat = b := ⟨_, rfl⟩
      have hb256 : b < 256 := by rw [← hb]; exact (s.get! (p + (k + 1))).toNat_lt
      have ix := idx_str s (p + (k + 1)) (by omega) ((p : Int) + ((k : Int) + 1)) (by omega)
      rw [hb] at ix
      have Hb := Lib.hid hb
      clear hb
      by_cases hbb : 128 ≤ (b : Int) ∧ (b : Int) ≤ 191
      · obtain ⟨hb1, hb2⟩ := hbb
        go_wp2
        go_round
        case rel =>
          refine ⟨k + 1, cv * 64 + (b : Int) - 128, by go_num, by omega, by go_num, by omega, ?_, ?_, ?_⟩
          · have := Hc1.out
            rw [Int.pow_succ]; omega
          · rw [contv, ← Hcv.out, Hb.out]
          · intro j j1 j2
            by_cases hj : j = k + 1
            · subst hj; unfold cont; rw [Hb.out]; exact ⟨hb1, hb2⟩
            · exact Hok.out j j1 (by omega)
        case measure => simp [intOf]; omega
      · have hx := hbad.out (k + 1) (by omega) (by omega) (by unfold cont; rw [Hb.out]; exact hbb)
        have Hx := Lib.hid hx
        clear hx
        have hbb : (b : Int) < 128 ∨ 191 < (b : Int) := by omega
        rcases hbb with hbb | hbb
        all_goals
          go_wp2
          go_ret2
          exact ⟨ret_two Hx.out.1.symm Hx.out.2.symm, rfl⟩
    · obtain rfl : k = 3 := by omega
      by_cases hx : cv < 65536 ∨ 1114111 < cv ∨ (55296 ≤ cv ∧ cv ≤ 57343)
      · have Hx := Lib.hid (hno.out Hok.out cv Hcv.out hx)
        rcases hx with hx | hx | ⟨hx, hy⟩
        all_goals
          go_wp2
          go_ret2
          exact ⟨ret_two Hx.out.1.symm Hx.out.2.symm, rfl⟩
      · have Hx := Lib.hid (hyes.out Hok.out cv Hcv.out hx)
        have hx1 : 65536 ≤ cv := by omega
        have hx2 : cv ≤ 1114111 := by omega
        have hx3 : cv < 55296 ∨ 57343 < cv := by omega
        clear hx
        have hx3 : 57343 < cv := by omega
        go_wp2
        go_ret2
        exact ⟨ret_two Hx.out.1.symm Hx.out.2.symm, rfl⟩

end Go.Proofs.YthkjnhihpbomaaaDoor
