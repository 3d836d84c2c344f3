/- Walks of package cursor: Take, Num, Sub, Rest. -/
import Derived.Test.YtfohgocdabgbgaaDoorCWalk
namespace Go.Proofs.YtfohgocdabgbgaaDoor
open Go.RowKit

set_option maxHeartbeats 1000000 in
theorem Take_yes (k : Nat) (s : ByteArray) (a n : Nat) (w : World) (h : Cur k s a w) (hs : s.size ≤ maxLen) (hn : a + n ≤ s.size) :
    Calls Tryd.prog 69 #[.pointer (some ⟨k, 0, none⟩), .int .i64 n] w fun e w' => e = .returned (.tuple #[.string (s.extract a (a + n)), .int .i64 0]) ∧ Cur k s (a + n) w' ∧ But k w w' := by
  have h0 := h.text
  have h1 := h.at
  have h2 := h.free
  have hm := hs
  unfold maxLen at hs
  have H := Lib.hid h
  clear h
  go_enter Tryd.func69, Tryd.ntmps69
  go_wp2_with (go_at_call 24; refine (Left_any k s a _ H.out (by omega) hm).mono ?_; rintro e w' ⟨rfl, n1, rfl⟩)
  have HC : Hid (Cur k s (a + n) ((w.drewN n1).setCell ⟨k, 1, none⟩ (.int .i64 ((a : Int) + n)))) := (show Cur k s a (w.drewN n1) from H.out).set (a + n) _ (by omega)
  have HB : Hid (But k w ((w.drewN n1).setCell ⟨k, 1, none⟩ (.int .i64 ((a : Int) + n)))) := ((But.refl k w).drewN n1).setCell 1 _
  generalize (w.drewN n1).setCell ⟨k, 1, none⟩ (.int .i64 ((a : Int) + n)) = W at HC HB ⊢
  have g0 := HC.out.text
  have g1 := HC.out.at
  have hz1 : (a : Int) ≤ ((a + n : Nat) : Int) := by omega
  go_quiet (fail)
  go_wp2
  go_ret2
  exact ⟨rfl, HC.out, HB.out.drewN _⟩
theorem Take_arg (k : Nat) (z : Int) (hz : z < 0) (w : World) :
    Calls Tryd.prog 69 #[.pointer (some ⟨k, 0, none⟩), .int .i64 z] w fun e w' => e = .returned (.tuple #[.string ⟨#[]⟩, .int .i64 1]) ∧ w' = w := by
  go_enter Tryd.func69, Tryd.ntmps69
  go_wp2
  go_ret2
  exact ⟨rfl, rfl⟩
set_option maxHeartbeats 1000000 in
theorem Take_short (k : Nat) (s : ByteArray) (a : Nat) (z : Int) (w : World) (h : Cur k s a w) (hs : s.size ≤ maxLen) (ha : a ≤ s.size) (hz : (s.size - a : Nat) < z) :
    Calls Tryd.prog 69 #[.pointer (some ⟨k, 0, none⟩), .int .i64 z] w fun e w' => e = .returned (.tuple #[.string ⟨#[]⟩, .int .i64 2]) ∧ ∃ n, w' = w.drewN n := by
  have hz0 : ¬ z < 0 := by omega
  have hm := hs
  unfold maxLen at hs
  have H := Lib.hid h
  clear h
  go_enter Tryd.func69, Tryd.ntmps69
  go_wp2_with (go_at_call 24; refine (Left_any k s a _ H.out (by omega) hm).mono ?_; rintro e w' ⟨rfl, n1, rfl⟩)
  go_ret2
  exact ⟨rfl, _, rfl⟩

/-- How Take answers: what was taken, how many bytes were read then, the error. -/
def taken (s : ByteArray) (a : Nat) (z : Int) : ByteArray × Nat × Nat :=
  if z < 0 then (⟨#[]⟩, a, 1) else if (s.size - a : Nat) < z then (⟨#[]⟩, a, 2) else (s.extract a (a + z.toNat), a + z.toNat, 0)

theorem Take_any (k : Nat) (s : ByteArray) (a : Nat) (z : Int) (w : World) (h : Cur k s a w) (hs : s.size ≤ maxLen) (ha : a ≤ s.size) :
    Calls Tryd.prog 69 #[.pointer (some ⟨k, 0, none⟩), .int .i64 z] w fun e w' => e = .returned (.tuple #[.string (taken s a z).1, .int .i64 (taken s a z).2.2]) ∧ Cur k s (taken s a z).2.1 w' ∧ But k w w' := by
  unfold taken
  split
  · rename_i h1
    exact (Take_arg k z h1 w).mono fun e w' ⟨he, hw⟩ => ⟨he, hw ▸ h, hw ▸ But.refl _ _⟩
  · split
    · rename_i h2
      refine (Take_short k s a z w h hs ha h2).mono ?_
      rintro e w' ⟨he, n, rfl⟩
      exact ⟨he, h, (But.refl _ _).drewN n⟩
    · obtain ⟨m, rfl⟩ := Int.eq_ofNat_of_zero_le (show 0 ≤ z by omega)
      exact Take_yes k s a m w h hs (by omega)

theorem taken_size (s : ByteArray) (a : Nat) (z : Int) (ha : a ≤ s.size) : a ≤ (taken s a z).2.1 ∧ (taken s a z).2.1 ≤ s.size ∧ (taken s a z).1.size = (taken s a z).2.1 - a := by
  unfold taken
  split
  · exact ⟨Nat.le_refl _, ha, by simp; rfl⟩
  · split
    · exact ⟨Nat.le_refl _, ha, by simp; rfl⟩
    · simp only [ByteArray.size_extract]
      omega

/-- How Num answers. -/
def numbered (s : ByteArray) (a : Nat) (z : Int) : Nat × Nat × Nat :=
  if z < 1 ∨ 4 < z then (0, a, 1) else (num (taken s a z).1.data.toList 0, (taken s a z).2.1, (taken s a z).2.2)

set_option maxHeartbeats 1000000 in
theorem Num_any (k : Nat) (s : ByteArray) (a : Nat) (z : Int) (w : World) (h : Cur k s a w) (hs : s.size ≤ maxLen) (ha : a ≤ s.size) :
    Calls Tryd.prog 65 #[.pointer (some ⟨k, 0, none⟩), .int .i64 z] w fun e w' => e = .returned (.tuple #[.int .i64 (numbered s a z).1, .int .i64 (numbered s a z).2.2]) ∧ Cur k s (numbered s a z).2.1 w' ∧ But k w w' := by
  have H := Lib.hid h
  have HM := Lib.hid hs
  clear h hs
  unfold numbered
  by_cases hz : z < 1 ∨ 4 < z
  · rw [if_pos hz]
    have HZ := Lib.hid hz
    clear hz
    go_enter Tryd.func65, Tryd.ntmps65
    go_wp2_with (go_at_call 71; refine (sized_no z HZ.out w).mono ?_; rintro e w' ⟨rfl, rfl⟩)
    go_ret2
    exact ⟨rfl, H.out, But.refl _ _⟩
  · rw [if_neg hz]
    have hT := Take_any k s a z w H.out HM.out ha
    have hz1 : 1 ≤ z := by omega
    have hz4 : z ≤ 4 := by omega
    have h4 : (taken s a z).1.size ≤ 4 := by
      rw [(taken_size s a z ha).2.2]
      unfold taken
      split
      · simp
      · split
        · simp
        · simp only []; omega
    have hc : (taken s a z).2.2 = 0 ∨ ((taken s a z).2.2 = 2 ∧ num (taken s a z).1.data.toList 0 = 0) := by
      unfold taken
      rw [if_neg (by omega)]
      split
      · exact .inr ⟨rfl, rfl⟩
      · exact .inl rfl
    generalize taken s a z = T at hT h4 hc
    obtain ⟨t, b, c⟩ := T
    simp only at hT h4 hc
    have HT := Lib.hid hT
    clear hT hz
    rcases hc with rfl | ⟨rfl, hn⟩
    · go_enter Tryd.func65, Tryd.ntmps65
      go_wp2_with (first | (go_at_call 71; refine (sized_yes z hz1 hz4 w).mono ?_; rintro e w' ⟨rfl, rfl⟩) | fail)
      go_at_call 69
      refine HT.out.mono ?_
      rintro e w1 ⟨rfl, c1, b1⟩
      have HC := Lib.hid c1
      have HB := Lib.hid b1
      clear c1 b1
      go_wp2_with (go_at_call 81; refine (number_any t h4 w1).mono ?_; rintro e w' ⟨rfl, rfl⟩)
      go_ret2
      exact ⟨rfl, HC.out, HB.out⟩
    · have HN := Lib.hid hn
      clear hn
      go_enter Tryd.func65, Tryd.ntmps65
      go_wp2_with (first | (go_at_call 71; refine (sized_yes z hz1 hz4 w).mono ?_; rintro e w' ⟨rfl, rfl⟩) | fail)
      go_at_call 69
      refine HT.out.mono ?_
      rintro e w1 ⟨rfl, c1, b1⟩
      have HC := Lib.hid c1
      have HB := Lib.hid b1
      clear c1 b1
      go_wp2
      go_ret2
      exact ⟨by rw [HN.out]; rfl, HC.out, HB.out⟩

set_option maxHeartbeats 1000000 in
theorem Rest_any (k : Nat) (s : ByteArray) (a : Nat) (w : World) (h : Cur k s a w) (hs : s.size ≤ maxLen) (ha : a ≤ s.size) :
    Calls Tryd.prog 48 #[.pointer (some ⟨k, 0, none⟩)] w fun e w' => e = .returned (.string (s.extract a s.size)) ∧ Cur k s s.size w' ∧ But k w w' := by
  have H := Lib.hid h
  have HM := Lib.hid hs
  clear h hs
  go_enter Tryd.func48, Tryd.ntmps48
  go_wp2_with fail
  go_at_call 24
  refine (Left_any k s a w H.out ha HM.out).mono ?_
  rintro e w1 ⟨rfl, n1, rfl⟩
  have hT := Take_yes k s a (s.size - a) (w.drewN n1) H.out HM.out (by omega)
  rw [show a + (s.size - a) = s.size by omega] at hT
  have HT := Lib.hid hT
  clear hT
  go_wp2_with fail
  go_at_call 69
  refine HT.out.mono ?_
  rintro e w2 ⟨rfl, c2, b2⟩
  have HC := Lib.hid c2
  have HB := Lib.hid (((But.refl k w).drewN n1).trans b2)
  clear c2 b2
  go_wp2
  go_ret
  exact ⟨rfl, HC.out, HB.out⟩
end Go.Proofs.YtfohgocdabgbgaaDoor
