/- Walks: Whole. -/
import Derived.Test.YtdfanplihheofaaAwake
namespace Go.Proofs.Ytdfanplihheofaa
open Go.RowKit

theorem info3 : (Try.prog.info? 3).map (fun i => (i.zero, i.size, i.bytes)) = some (some (.int .i64 0), 1, 8) := by kernel_rfl

/-- The number that stands at a place of whole numbers. -/
def nth (s : ByteArray) (m i : Nat) : Nat := num (s.extract (i * m) ((i + 1) * m)).data.toList 0
def wholes (s : ByteArray) (m k : Nat) : List Value := (List.range k).map fun i => .int .i64 (nth s m i : Nat)
theorem wholes_length (s : ByteArray) (m k : Nat) : (wholes s m k).length = k := by simp [wholes]
theorem wholes_step (s : ByteArray) (m q k : Nat) (hk : k < q) : (wholes s m k ++ List.replicate (q - k) (Value.int .i64 0)).set k (.int .i64 (nth s m k : Nat)) = wholes s m (k + 1) ++ List.replicate (q - (k + 1)) (Value.int .i64 0) := by
  rw [show q - k = (q - (k + 1)) + 1 by omega, List.replicate_succ, List.set_append_right _ _ (by rw [wholes_length]; exact Nat.le_refl _), wholes_length, Nat.sub_self]
  simp [wholes, List.range_succ]

set_option maxHeartbeats 1000000 in
theorem Whole_yes (s : ByteArray) (m q : Nat) (hs : s.size ≤ 5000) (hm1 : 1 ≤ m) (hm4 : m ≤ 4) (hq : s.size = q * m) (w : World) :
    Calls Try.prog 20 #[.string s, .int .i64 m] w fun e w' => e = .returned (.tuple #[.slice (some ⟨w.heap.size, 0, none⟩) q q, .int .i64 0]) ∧ w'.ownsRow w.heap.size 3 1 (.slice (some ⟨w.heap.size, 0, none⟩) q q) q (wholes s m q) ∧ Below w.heap.size w w' := by
  obtain ⟨i0, hi, hz0, hz1, hz2⟩ := info_parts info3
  have hq5 : q ≤ 5000 := Nat.le_trans (Nat.le_mul_of_pos_right q hm1) (by omega)
  have hr : ((s.size : Int) % (m : Int) != 0) = false := by
    rw [hq]; simp
  have hd : (s.size : Int) / (m : Int) = (q : Int) := by
    rw [hq]; simp; rw [Int.mul_ediv_cancel _ (by omega)]
  have HQ := Lib.hid hq
  clear hq
  go_enter Try.func20, Try.ntmps20
  go_wp2_with (first | (go_at_call 21; refine (sized_yes m (by omega) (by omega) w).mono ?_; rintro e w' ⟨rfl, rfl⟩) | (at_make; refine wpList_make_full _ rfl _ _ 22 rfl w.heap.size 3 i0 (.int .i64 0) 1 Try.underlying22 hi hz0 hz1 _ _ _ _ q rfl rfl (by omega) (by omega) (by rw [hz2]; omega) (by unfold maxLen; omega) (Nat.le_refl _) ?_))
  intro w1 o1 g1
  have H1 : Hid (w1.ownsRow w.heap.size 3 1 (.slice (some ⟨w.heap.size, 0, none⟩) q q) q (wholes s m 0 ++ List.replicate (q - 0) (Value.int .i64 0))) := by
    rw [toList_madeCells_one] at o1
    exact o1
  have K1 := Lib.hid (show Below w.heap.size w w1 from (Below.refl _ _).grown g1 (Nat.le_refl _) (fun k hk => by cases hk))
  clear o1 g1
  go_wp2
  go_loopw [23] (fun i wr => ∃ k : Nat, i = .int .i64 k ∧ k ≤ q ∧ wr.ownsRow w.heap.size 3 1 (.slice (some ⟨w.heap.size, 0, none⟩) q q) q (wholes s m k ++ List.replicate (q - k) (Value.int .i64 0)) ∧ Below w.heap.size w wr) (fun i _ => q - (intOf i).toNat)
  case atStart => exact ⟨0, rfl, Nat.zero_le _, H1.out, K1.out⟩
  case round =>
    obtain ⟨k, rfl, hk, hR, hb⟩ := hrel
    have HR := Lib.hid hR
    have HB := Lib.hid hb
    clear hR hb
    by_cases hlt : k < q
    · have hf := World.ownsRow.frozenAt HR.out k
      have hc := World.ownsRow.cellAt HR.out k (by omega)
      have hv : (wholes s m k ++ List.replicate (q - k) (Value.int .i64 0))[k]? = some (.int .i64 0) := by
        rw [List.getElem?_append_right (by rw [wholes_length]; exact Nat.le_refl _), wholes_length, Nat.sub_self, List.getElem?_replicate, if_pos (by omega)]
      rw [hv] at hc
      clear hv
      have hkm : (k + 1) * m ≤ s.size := by rw [HQ.out]; exact Nat.mul_le_mul_right _ hlt
      have hk1 : (k + 1) * m = k * m + m := Nat.succ_mul _ _
      have hsz : (s.extract (k * m) ((k + 1) * m)).size ≤ 4 := by rw [ByteArray.size_extract]; omega
      have HN : ∀ W, Hid (Calls Try.prog 22 #[.string (s.extract (k * m) ((k + 1) * m))] W fun e w' => e = .returned (.int .i64 (nth s m k : Nat)) ∧ w' = W) := fun W => number_any _ hsz W
      have z1 : ((k : Int) + 1) * (m : Int) ≤ (s.size : Int) := by
        have hx : (((k + 1) * m : Nat) : Int) ≤ (s.size : Int) := Int.ofNat_le.2 hkm
        simpa using hx
      have z2 : (k : Int) * (m : Int) ≤ ((k : Int) + 1) * (m : Int) := by rw [Int.add_mul]; omega
      have z0 : 0 ≤ (k : Int) * (m : Int) := Int.mul_nonneg (by omega) (by omega)
      have z3 : 0 ≤ ((k : Int) + 1) * (m : Int) := Int.le_trans z0 z2
      have zw : wrap64 (((k : Int) + 1) * (m : Int)) = ((k : Int) + 1) * (m : Int) := wrap64_small _ z3 (Int.lt_of_le_of_lt z1 (by omega))
      have zn : (((k : Int) + 1) * (m : Int)).toNat = (k + 1) * m := by
        have hx : ((k : Int) + 1) * (m : Int) = (((k + 1) * m : Nat) : Int) := by simp
        rw [hx]; exact Int.toNat_natCast _
      clear hsz hkm hk1
      go_wp2_with fail
      go_at_call 22
      refine (HN wr).out.mono ?_
      rintro e w' ⟨rfl, rfl⟩
      go_wp2
      have hst := World.ownsRow.stored HR.out k (.int .i64 (nth s m k : Nat))
      rw [wholes_step s m q k hlt] at hst
      go_roundw
      case rel => exact ⟨k + 1, by go_num, by omega, hst.1, HB.out.setCell (p := ⟨w.heap.size, _, none⟩) (Nat.le_refl _) _⟩
      case measure => simp [intOf]; omega
    · obtain rfl : k = q := by omega
      have hR := HR.out
      rw [Nat.sub_self, List.replicate_zero, List.append_nil] at hR
      have HR2 := Lib.hid hR
      clear hR
      go_wp2
      go_ret2
      exact ⟨rfl, HR2.out, HB.out⟩

set_option maxHeartbeats 1000000 in
theorem Whole_arg (s : ByteArray) (m : Int) (hm : m < 1 ∨ 4 < m) (w : World) :
    Calls Try.prog 20 #[.string s, .int .i64 m] w fun e w' => e = .returned (.tuple #[.slice none 0 0, .int .i64 1]) ∧ w = w' := by
  have HM := Lib.hid hm
  clear hm
  go_enter Try.func20, Try.ntmps20
  go_wp2_with (go_at_call 21; refine (sized_no m HM.out w).mono ?_; rintro e w' ⟨rfl, rfl⟩)
  go_ret2
  exact ⟨rfl, rfl⟩
set_option maxHeartbeats 1000000 in
theorem Whole_short (s : ByteArray) (m : Nat) (hm1 : 1 ≤ m) (hm4 : m ≤ 4) (hr : ((s.size : Int) % (m : Int) != 0) = true) (w : World) :
    Calls Try.prog 20 #[.string s, .int .i64 m] w fun e w' => e = .returned (.tuple #[.slice none 0 0, .int .i64 2]) ∧ w = w' := by
  go_enter Try.func20, Try.ntmps20
  go_wp2_with (go_at_call 21; refine (sized_yes m (by omega) (by omega) w).mono ?_; rintro e w' ⟨rfl, rfl⟩)
  go_ret2
  exact ⟨rfl, rfl⟩

set_option maxHeartbeats 2000000 in
theorem CursorWhole_any (s : ByteArray) (m : Int) (w : World) : Calls Try.prog 6 #[.string s, .int .i64 m] w fun e w' => e = .returned (.bool true) ∧ Below w.heap.size w w' := by
  by_cases ha : 5000 < (s.size : Int)
  · go_enter Try.func6, Try.ntmps6
    go_wp2_with (go_at_call 8; refine (awake_any w).mono ?_; rintro e w' ⟨rfl, hb⟩)
    go_ret
    exact ⟨rfl, hb⟩
  by_cases h1 : m < 1
  · have HA := fun W => Lib.hid (Whole_arg s m (.inl h1) W)
    go_enter Try.func6, Try.ntmps6
    go_wp2_with (go_at_call 20; refine (HA w).out.mono ?_; rintro e w' ⟨rfl, rfl⟩)
    go_at_call 8
    refine (awake_any w).mono ?_
    rintro e w' ⟨rfl, hb⟩
    have HB := Lib.hid hb
    clear hb
    go_wp2
    go_ret
    exact ⟨rfl, HB.out⟩
  by_cases h2 : 4 < m
  · have HA := fun W => Lib.hid (Whole_arg s m (.inr h2) W)
    go_enter Try.func6, Try.ntmps6
    go_wp2_with (go_at_call 20; refine (HA w).out.mono ?_; rintro e w' ⟨rfl, rfl⟩)
    go_at_call 8
    refine (awake_any w).mono ?_
    rintro e w' ⟨rfl, hb⟩
    have HB := Lib.hid hb
    clear hb
    go_wp2
    go_ret
    exact ⟨rfl, HB.out⟩
  obtain ⟨M, rfl⟩ := Int.eq_ofNat_of_zero_le (show 0 ≤ m by omega)
  by_cases hr : ((s.size : Int) % (M : Int) != 0) = true
  · have HA := fun W => Lib.hid (Whole_short s M (by omega) (by omega) hr W)
    go_enter Try.func6, Try.ntmps6
    go_wp2_with (go_at_call 20; refine (HA w).out.mono ?_; rintro e w' ⟨rfl, rfl⟩)
    go_at_call 8
    refine (awake_any w).mono ?_
    rintro e w' ⟨rfl, hb⟩
    have HB := Lib.hid hb
    clear hb
    go_wp2
    go_ret
    exact ⟨rfl, HB.out⟩
  · have hr' : ((s.size : Int) % (M : Int) != 0) = false := by simpa using hr
    have hq : s.size = s.size / M * M := by
      have h0 : (s.size : Int) % (M : Int) = 0 := by simpa using hr'
      have h1 : s.size % M = 0 := by
        have : ((s.size % M : Nat) : Int) = 0 := by rw [← h0]; simp
        omega
      rw [Nat.div_mul_cancel (Nat.dvd_of_mod_eq_zero h1)]
    have hd : (s.size : Int) / (M : Int) = ((s.size / M : Nat) : Int) := by simp
    generalize s.size / M = q at hq hd
    have hM1 : 1 ≤ M := by omega
    have hM4 : M ≤ 4 := by omega
    have hs5 : s.size ≤ 5000 := by omega
    have HW := Lib.hid (Whole_yes s M q hs5 hM1 hM4 hq w)
    have HQ := Lib.hid hq
    have hq5 : q ≤ 5000 := Nat.le_trans (Nat.le_mul_of_pos_right q hM1) (by omega)
    clear hq hr
    go_enter Try.func6, Try.ntmps6
    go_wp2_with fail
    go_at_call 20
    refine HW.out.mono ?_
    rintro e w1 ⟨rfl, o1, b1⟩
    have HO := Lib.hid o1
    have HB := Lib.hid b1
    clear o1 b1
    go_wp2
    go_loopw [7] (fun i wr => ∃ k n : Nat, i = .int .i64 k ∧ k ≤ q ∧ wr = w1.drewN n) (fun i _ => q - (intOf i).toNat)
    case atStart => exact ⟨0, 0, rfl, Nat.zero_le _, rfl⟩
    case round =>
      obtain ⟨k, n, rfl, hk, hwr⟩ := hrel
      have HWR := Lib.hid hwr
      clear hwr
      by_cases hlt : k < q
      · have hc : wr.cell? ⟨w.heap.size, k, none⟩ = (wholes s M q)[k]? := by rw [HWR.out]; exact World.ownsRow.cellAt HO.out k (by omega)
        have hv : (wholes s M q)[k]? = some (.int .i64 (nth s M k : Nat)) := by
          unfold wholes
          rw [List.getElem?_map, List.getElem?_range hlt]
          rfl
        rw [hv] at hc
        clear hv
        have hkm : (k + 1) * M ≤ s.size := by rw [HQ.out]; exact Nat.mul_le_mul_right _ hlt
        have hk1 : (k + 1) * M = k * M + M := Nat.succ_mul _ _
        have hsz : (s.extract (k * M) ((k + 1) * M)).size ≤ 4 := by rw [ByteArray.size_extract]; omega
        have HN : ∀ W, Hid (Calls Try.prog 15 #[.string (s.extract (k * M) ((k + 1) * M))] W fun e w' => e = .returned (.int .i64 (nth s M k : Nat)) ∧ w' = W) := fun W => rNum_any _ hsz W
        have z1 : ((k : Int) + 1) * (M : Int) ≤ (s.size : Int) := by
          have hx : (((k + 1) * M : Nat) : Int) ≤ (s.size : Int) := Int.ofNat_le.2 hkm
          simpa using hx
        have z2 : (k : Int) * (M : Int) ≤ ((k : Int) + 1) * (M : Int) := by rw [Int.add_mul]; omega
        have z0 : 0 ≤ (k : Int) * (M : Int) := Int.mul_nonneg (by omega) (by omega)
        have z3 : 0 ≤ ((k : Int) + 1) * (M : Int) := Int.le_trans z0 z2
        have zw : wrap64 (((k : Int) + 1) * (M : Int)) = ((k : Int) + 1) * (M : Int) := wrap64_small _ z3 (Int.lt_of_le_of_lt z1 (by omega))
        have zn : (((k : Int) + 1) * (M : Int)).toNat = (k + 1) * M := by
          have hx : ((k : Int) + 1) * (M : Int) = (((k + 1) * M : Nat) : Int) := by simp
          rw [hx]; exact Int.toNat_natCast _
        clear hsz hkm hk1
        go_wp2
        go_quiet ((go_at_call 15; exact Calls.quiet_of_same (HN _).out))
        go_wp2
        go_roundw
        case rel => exact ⟨k + 1, _, by go_num, by omega, by rw [HWR.out]; exact World.drewN_drewN _ _ _⟩
        case measure => simp [intOf]; omega
      · go_wp2_with (go_at_call 8; refine (awake_any _).mono ?_; rintro e w' ⟨rfl, hb⟩)
        go_ret
        have h0 : Below w.heap.size w wr := by
          rw [HWR.out]
          exact HB.out.trans ⟨rfl, rfl, rfl, Nat.le_refl _, fun _ _ => rfl⟩
        exact ⟨rfl, h0.trans (hb.mono h0.size)⟩
end Go.Proofs.Ytdfanplihheofaa
