/- Walks of the document's reader: byteAt, Rest, Marker. -/
import Derived.Test.YtmoennlpendknaaInts
namespace Go.Proofs.Ytmoennlpendknaa
open Go.RowKit

theorem bitsOf_at (v : Nat) : ∀ (n i : Nat) (_ : i < n), (bitsOf v n)[i]? = some (v / 2 ^ (n - 1 - i) % 2 == 1)
  | n + 1, 0, _ => by simp [bitsOf]
  | n + 1, i + 1, h => by
    have := bitsOf_at v n i (by omega)
    rw [bitsOf, List.getElem?_cons_succ, this, show n + 1 - 1 - (i + 1) = n - 1 - i by omega]
theorem bits_take (v i : Nat) (h : i < 8) : (bitsOf v 8).take (i + 1) = (bitsOf v 8).take i ++ [v * 2 ^ i / 128 % 2 == 1] := by
  have hb := bitsOf_at v 8 i h
  have hl : i < (bitsOf v 8).length := by rw [bitsOf_length]; exact h
  rw [List.take_succ_eq_append_getElem hl]
  congr 2
  rw [List.getElem?_eq_getElem hl] at hb
  rw [Option.some.inj hb]
  have e : v * 2 ^ i / 128 = v / 2 ^ (8 - 1 - i) := by
    have : (128 : Nat) = 2 ^ (8 - 1 - i) * 2 ^ i := by rw [← Nat.pow_add, show 8 - 1 - i + i = 7 by omega]
    rw [this, Nat.mul_div_mul_right _ _ (Nat.two_pow_pos i)]
  rw [e]
theorem bit_int (x : Nat) : ((x % 2 : Nat) : Int) = (((x % 2 == 1) : Bool).toNat : Nat) := by rw [bit_toNat]

/-- The end of byteAt: its loop. -/
theorem byteAt_none (s : ByteArray) (a : Nat) (hs : s.size ≤ maxLen) (ha : a ≤ s.size) (w : World) (h0 : (dbyte s.data.toList a).2 = 0) :
    Calls Try.prog 35 #[.string s, .int .i64 a] w fun e w' => e = .returned (.tuple #[.slice none 0 0, .int .i64 0]) ∧ w = w' := by
  unfold maxLen at hs
  by_cases h1 : a < s.size
  · have e1 := bytes_at s a h1
    have hb := s[a].toNat_lt
    by_cases h2 : s[a].toNat = 255
    · by_cases h3 : a + 1 < s.size
      · have e3 := bytes_at s (a + 1) h3
        have h4 : s[a + 1].toNat ≠ 0 := by
          intro h4
          unfold dbyte at h0
          rw [e1] at h0
          simp only [] at h0
          rw [if_pos ((toNat_255 _).2 h2), e3, if_pos (by rw [(toNat_0 _).2 h4])] at h0
          simp at h0
        have h4b : ((s[a + 1].toNat : Int) != 0) = true := by rw [bne_iff_ne]; omega
        clear e1 e3 h0
        go_enter Try.func35, Try.ntmps35
        go_wp2
        go_ret2
        exact ⟨rfl, rfl⟩
      · clear e1 h0
        go_enter Try.func35, Try.ntmps35
        go_wp2
        go_ret2
        exact ⟨rfl, rfl⟩
    · exfalso
      unfold dbyte at h0
      rw [e1] at h0
      simp only [] at h0
      rw [if_neg (fun h => h2 ((toNat_255 _).1 h))] at h0
      simp at h0
  · clear h0
    go_enter Try.func35, Try.ntmps35
    go_wp2
    go_ret2
    exact ⟨rfl, rfl⟩

set_option maxHeartbeats 1000000 in
theorem byteAt_yes (s : ByteArray) (a : Nat) (hs : s.size ≤ maxLen) (ha : a ≤ s.size) (w : World) (h0 : (dbyte s.data.toList a).2 ≠ 0) :
    Calls Try.prog 35 #[.string s, .int .i64 a] w fun e w' => ∃ v, e = .returned (.tuple #[v, .int .i64 (dbyte s.data.toList a).2]) ∧ OwnI w.heap.size v (bitsOf (dbyte s.data.toList a).1 8) w' ∧ Below w.heap.size w w' := by
  unfold maxLen at hs
  have h1 : a < s.size := by
    apply Decidable.byContradiction
    intro h
    unfold dbyte at h0
    rw [bytes_none s a (by omega)] at h0
    simp at h0
  have e1 := bytes_at s a h1
  have hb := s[a].toNat_lt
  by_cases h2 : s[a].toNat = 255
  · have h3 : a + 1 < s.size ∧ s.data.toList[a + 1]? = some 0 := by
      unfold dbyte at h0
      rw [e1] at h0
      simp only [] at h0
      rw [if_pos ((toNat_255 _).2 h2)] at h0
      split at h0
      · rename_i h
        exact ⟨by simpa using (List.getElem?_eq_some_iff.1 h).1, h⟩
      · simp at h0
    obtain ⟨h3, h4⟩ := h3
    have h5 : s[a + 1].toNat = 0 := by
      rw [bytes_at s (a + 1) h3] at h4
      exact (toNat_0 _).1 (Option.some.inj h4)
    have HE : Hid (dbyte s.data.toList a = (255, 2)) := by unfold Hid dbyte; rw [e1]; simp only []; rw [if_pos ((toNat_255 _).2 h2), if_pos h4]
    rw [HE.out]
    clear e1 h0 h4
    go_enter Try.func35, Try.ntmps35
    go_wp2
    go_loopw [7, 8, 9] (fun v n i wr => ∃ k : Nat, i = .int .i64 k ∧ k ≤ 8 ∧ n = .int .i64 (255 * 2 ^ k : Nat) ∧ OwnI w.heap.size v ((bitsOf 255 8).take k) wr ∧ Below w.heap.size w wr) (fun _ _ i _ => 8 - (intOf i).toNat)
    case atStart => exact ⟨0, rfl, by omega, rfl, World.ownsRow_nil _ _ _ _, Below.refl _ _⟩
    case round =>
      obtain ⟨k, rfl, hk, rfl, hO, hB⟩ := hrel
      have HO := Lib.hid hO
      have HB := Lib.hid hB
      have hBs := hB.size
      clear hO hB
      by_cases hlt : k < 8
      · have HT := Lib.hid (bits_take 255 k hlt)
        have hpw : 2 ^ k ≤ 2 ^ 7 := Nat.pow_le_pow_right (by omega) (by omega)
        have HQ := Lib.hid (show 255 * 2 ^ (k + 1) = 255 * 2 ^ k * 2 by rw [Nat.pow_succ, Nat.mul_assoc])
        have hq : 255 * 2 ^ k ≤ 32640 := by omega
        have hl : ((bitsOf 255 8).take k).length ≤ 8 := by rw [List.length_take, bitsOf_length]; omega
        generalize (bitsOf 255 8).take k = acc at *
        generalize 255 * 2 ^ k = q at *
        have HZ := Lib.hid (show (q : Int) / 128 % 2 = (((q / 128 % 2 == 1) : Bool).toNat : Nat) by rw [← bit_int]; simp)
        go_wp2_with (at_builtin; refine wpList_appI rfl _ _ rfl w.heap.size u7 acc ((q : Int) / 128 % 2) (q / 128 % 2 == 1) HZ.out rfl rfl HO.out (by omega) hBs ?_)
        intro v2 w2 o2 b2 _
        have HO2 := Lib.hid o2
        have HB2 := Lib.hid (HB.out.trans b2)
        clear o2 b2
        go_wp2
        go_roundw
        case rel => exact ⟨k + 1, by go_num, by omega, by rw [HQ.out]; go_num, by rw [HT.out]; exact HO2.out, HB2.out⟩
        case measure => simp [intOf]; omega
      · obtain rfl : k = 8 := by omega
        have ho := HO.out
        rw [List.take_of_length_le (by rw [bitsOf_length]; omega)] at ho
        have HO8 := Lib.hid ho
        clear ho
        go_wp2
        go_ret2
        exact ⟨_, rfl, HO8.out, HB.out⟩
  · have HE : Hid (dbyte s.data.toList a = (s[a].toNat, 1)) := by unfold Hid dbyte; rw [e1]; simp only []; rw [if_neg (fun h => h2 ((toNat_255 _).1 h))]
    rw [HE.out]
    have q1 : ((s[a].toNat : Int) == 255) = false := by rw [beq_eq_false_iff_ne]; omega
    have q2 : decide (s.size ≤ a) = false := decide_eq_false (by omega)
    clear e1 h0
    simp only []
    go_enter Try.func35, Try.ntmps35
    go_wp2
    go_loopw [7, 8, 9] (fun v n i wr => ∃ k : Nat, i = .int .i64 k ∧ k ≤ 8 ∧ n = .int .i64 (s[a].toNat * 2 ^ k : Nat) ∧ OwnI w.heap.size v ((bitsOf s[a].toNat 8).take k) wr ∧ Below w.heap.size w wr) (fun _ _ i _ => 8 - (intOf i).toNat)
    case atStart => exact ⟨0, rfl, by omega, by simp, World.ownsRow_nil _ _ _ _, Below.refl _ _⟩
    case round =>
      obtain ⟨k, rfl, hk, rfl, hO, hB⟩ := hrel
      have HO := Lib.hid hO
      have HB := Lib.hid hB
      have hBs := hB.size
      clear hO hB
      by_cases hlt : k < 8
      · have HT := Lib.hid (bits_take s[a].toNat k hlt)
        have hpw : 2 ^ k ≤ 2 ^ 7 := Nat.pow_le_pow_right (by omega) (by omega)
        have HQ := Lib.hid (show s[a].toNat * 2 ^ (k + 1) = s[a].toNat * 2 ^ k * 2 by rw [Nat.pow_succ, Nat.mul_assoc])
        have hq : s[a].toNat * 2 ^ k ≤ 255 * 2 ^ 7 := Nat.mul_le_mul (by omega) hpw
        have hl : ((bitsOf s[a].toNat 8).take k).length ≤ 8 := by rw [List.length_take, bitsOf_length]; omega
        generalize (bitsOf s[a].toNat 8).take k = acc at *
        generalize s[a].toNat * 2 ^ k = q at *
        have HZ := Lib.hid (show (q : Int) / 128 % 2 = (((q / 128 % 2 == 1) : Bool).toNat : Nat) by rw [← bit_int]; simp)
        go_wp2_with (at_builtin; refine wpList_appI rfl _ _ rfl w.heap.size u7 acc ((q : Int) / 128 % 2) (q / 128 % 2 == 1) HZ.out rfl rfl HO.out (by omega) hBs ?_)
        intro v2 w2 o2 b2 _
        have HO2 := Lib.hid o2
        have HB2 := Lib.hid (HB.out.trans b2)
        clear o2 b2
        go_wp2
        go_roundw
        case rel => exact ⟨k + 1, by go_num, by omega, by rw [HQ.out]; go_num, by rw [HT.out]; exact HO2.out, HB2.out⟩
        case measure => simp [intOf]; omega
      · obtain rfl : k = 8 := by omega
        have ho := HO.out
        rw [List.take_of_length_le (by rw [bitsOf_length]; omega)] at ho
        have HO8 := Lib.hid ho
        clear ho
        go_wp2
        go_ret2
        exact ⟨_, rfl, HO8.out, HB.out⟩
end Go.Proofs.Ytmoennlpendknaa
