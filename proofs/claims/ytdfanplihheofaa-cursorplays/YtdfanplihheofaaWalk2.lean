/- Walks of package cursor: Take, Num, Sub, Rest. -/
import Derived.Test.YtdfanplihheofaaWalk
namespace Go.Proofs.Ytdfanplihheofaa
open Go.RowKit

set_option maxHeartbeats 1000000 in
theorem Take_yes (k : Nat) (s : ByteArray) (a n : Nat) (w : World) (h : Cur k s a w) (hs : s.size ≤ maxLen) (hn : a + n ≤ s.size) :
    Calls Try.prog 16 #[.pointer (some ⟨k, 0, none⟩), .int .i64 n] w fun e w' => e = .returned (.tuple #[.string (s.extract a (a + n)), .int .i64 0]) ∧ Cur k s (a + n) w' ∧ But k w w' := by
  have h0 := h.text
  have h1 := h.at
  have h2 := h.free
  have hm := hs
  unfold maxLen at hs
  have H := Lib.hid h
  clear h
  go_enter Try.func16, Try.ntmps16
  go_wp2_with (go_at_call 13; refine (Left_any k s a _ H.out (by omega) hm).mono ?_; rintro e w' ⟨rfl, n1, rfl⟩)
  have HC : Hid (Cur k s (a + n) ((w.drewN n1).setCell ⟨k, 1, none⟩ (.int .i64 ((a : Int) + n)))) := (show Cur k s a (w.drewN n1) from H.out).set (a + n) _ (by omega)
  have HB : Hid (But k w ((w.drewN n1).setCell ⟨k, 1, none⟩ (.int .i64 ((a : Int) + n)))) := ((But.refl k w).drewN n1).setCell 1 _
  generalize (w.drewN n1).setCell ⟨k, 1, none⟩ (.int .i64 ((a : Int) + n)) = W at HC HB ⊢
  have g0 := HC.out.text
  have g1 := HC.out.at
  have hz1 : (a : Int) ≤ ((a + n : Nat) : Int) := by omega
  go_quiet (fail)
  go_wp2
  go_ret2
  exact ⟨rfl, HC.out, HB.out.drewN _⟩
theorem Take_arg (k : Nat) (z : Int) (hz : z < 0) (w : World) :
    Calls Try.prog 16 #[.pointer (some ⟨k, 0, none⟩), .int .i64 z] w fun e w' => e = .returned (.tuple #[.string ⟨#[]⟩, .int .i64 1]) ∧ w' = w := by
  go_enter Try.func16, Try.ntmps16
  go_wp2
  go_ret2
  exact ⟨rfl, rfl⟩
theorem Take_nil (z : Int) (w : World) :
    Calls Try.prog 16 #[.pointer none, .int .i64 z] w fun e w' => e = .returned (.tuple #[.string ⟨#[]⟩, .int .i64 1]) ∧ w' = w := by
  go_enter Try.func16, Try.ntmps16
  go_wp2
  go_ret2
  exact ⟨rfl, rfl⟩
set_option maxHeartbeats 1000000 in
theorem Take_short (k : Nat) (s : ByteArray) (a : Nat) (z : Int) (w : World) (h : Cur k s a w) (hs : s.size ≤ maxLen) (ha : a ≤ s.size) (hz : (s.size - a : Nat) < z) :
    Calls Try.prog 16 #[.pointer (some ⟨k, 0, none⟩), .int .i64 z] w fun e w' => e = .returned (.tuple #[.string ⟨#[]⟩, .int .i64 2]) ∧ ∃ n, w' = w.drewN n := by
  have hz0 : ¬ z < 0 := by omega
  have hm := hs
  unfold maxLen at hs
  have H := Lib.hid h
  clear h
  go_enter Try.func16, Try.ntmps16
  go_wp2_with (go_at_call 13; refine (Left_any k s a _ H.out (by omega) hm).mono ?_; rintro e w' ⟨rfl, n1, rfl⟩)
  go_ret2
  exact ⟨rfl, _, rfl⟩

/-- How Take answers: what was taken, how many bytes were read then, the error. -/
def taken (s : ByteArray) (a : Nat) (z : Int) : ByteArray × Nat × Nat :=
  if z < 0 then (⟨#[]⟩, a, 1) else if (s.size - a : Nat) < z then (⟨#[]⟩, a, 2) else (s.extract a (a + z.toNat), a + z.toNat, 0)

theorem Take_any (k : Nat) (s : ByteArray) (a : Nat) (z : Int) (w : World) (h : Cur k s a w) (hs : s.size ≤ maxLen) (ha : a ≤ s.size) :
    Calls Try.prog 16 #[.pointer (some ⟨k, 0, none⟩), .int .i64 z] w fun e w' => e = .returned (.tuple #[.string (taken s a z).1, .int .i64 (taken s a z).2.2]) ∧ Cur k s (taken s a z).2.1 w' ∧ But k w w' := by
  unfold taken
  split
  · rename_i h1
    exact (Take_arg k z h1 w).mono fun e w' ⟨he, hw⟩ => ⟨he, hw ▸ h, hw ▸ But.refl _ _⟩
  · split
    · rename_i h2
      refine (Take_short k s a z w h hs ha h2).mono ?_
      rintro e w' ⟨he, n, rfl⟩
      exact ⟨he, h, (But.refl _ _).drewN n⟩
    · obtain ⟨m, rfl⟩ := Int.eq_ofNat_of_zero_le (show 0 ≤ z by omega)
      exact Take_yes k s a m w h hs (by omega)

theorem taken_size (s : ByteArray) (a : Nat) (z : Int) (ha : a ≤ s.size) : a ≤ (taken s a z).2.1 ∧ (taken s a z).2.1 ≤ s.size ∧ (taken s a z).1.size = (taken s a z).2.1 - a := by
  unfold taken
  split
  · exact ⟨Nat.le_refl _, ha, by simp; rfl⟩
  · split
    · exact ⟨Nat.le_refl _, ha, by simp; rfl⟩
    · simp only [ByteArray.size_extract]
      omega

/-- How Num answers. -/
def numbered (s : ByteArray) (a : Nat) (z : Int) : Nat × Nat × Nat :=
  if z < 1 ∨ 4 < z then (0, a, 1) else (num (taken s a z).1.data.toList 0, (taken s a z).2.1, (taken s a z).2.2)

set_option maxHeartbeats 1000000 in
theorem Num_any (k : Nat) (s : ByteArray) (a : Nat) (z : Int) (w : World) (h : Cur k s a w) (hs : s.size ≤ maxLen) (ha : a ≤ s.size) :
    Calls Try.prog 11 #[.pointer (some ⟨k, 0, none⟩), .int .i64 z] w fun e w' => e = .returned (.tuple #[.int .i64 (numbered s a z).1, .int .i64 (numbered s a z).2.2]) ∧ Cur k s (numbered s a z).2.1 w' ∧ But k w w' := by
  have H := Lib.hid h
  have HM := Lib.hid hs
  clear h hs
  unfold numbered
  by_cases hz : z < 1 ∨ 4 < z
  · rw [if_pos hz]
    have HZ := Lib.hid hz
    clear hz
    go_enter Try.func11, Try.ntmps11
    go_wp2_with (go_at_call 21; refine (sized_no z HZ.out w).mono ?_; rintro e w' ⟨rfl, rfl⟩)
    go_ret2
    exact ⟨rfl, H.out, But.refl _ _⟩
  · rw [if_neg hz]
    have hT := Take_any k s a z w H.out HM.out ha
    have hz1 : 1 ≤ z := by omega
    have hz4 : z ≤ 4 := by omega
    have h4 : (taken s a z).1.size ≤ 4 := by
      rw [(taken_size s a z ha).2.2]
      unfold taken
      split
      · simp
      · split
        · simp
        · simp only []; omega
    have hc : (taken s a z).2.2 = 0 ∨ ((taken s a z).2.2 = 2 ∧ num (taken s a z).1.data.toList 0 = 0) := by
      unfold taken
      rw [if_neg (by omega)]
      split
      · exact .inr ⟨rfl, rfl⟩
      · exact .inl rfl
    generalize taken s a z = T at hT h4 hc
    obtain ⟨t, b, c⟩ := T
    simp only at hT h4 hc
    have HT := Lib.hid hT
    clear hT hz
    rcases hc with rfl | ⟨rfl, hn⟩
    · go_enter Try.func11, Try.ntmps11
      go_wp2_with (first | (go_at_call 21; refine (sized_yes z hz1 hz4 w).mono ?_; rintro e w' ⟨rfl, rfl⟩) | fail)
      go_at_call 16
      refine HT.out.mono ?_
      rintro e w1 ⟨rfl, c1, b1⟩
      have HC := Lib.hid c1
      have HB := Lib.hid b1
      clear c1 b1
      go_wp2_with (go_at_call 22; refine (number_any t h4 w1).mono ?_; rintro e w' ⟨rfl, rfl⟩)
      go_ret2
      exact ⟨rfl, HC.out, HB.out⟩
    · have HN := Lib.hid hn
      clear hn
      go_enter Try.func11, Try.ntmps11
      go_wp2_with (first | (go_at_call 21; refine (sized_yes z hz1 hz4 w).mono ?_; rintro e w' ⟨rfl, rfl⟩) | fail)
      go_at_call 16
      refine HT.out.mono ?_
      rintro e w1 ⟨rfl, c1, b1⟩
      have HC := Lib.hid c1
      have HB := Lib.hid b1
      clear c1 b1
      go_wp2
      go_ret2
      exact ⟨by rw [HN.out]; rfl, HC.out, HB.out⟩

set_option maxHeartbeats 1000000 in
theorem Num_nil (w : World) : Calls Try.prog 11 #[.pointer none, .int .i64 1] w fun e w' => e = .returned (.tuple #[.int .i64 0, .int .i64 1]) ∧ w' = w := by
  go_enter Try.func11, Try.ntmps11
  go_wp2_with (first | (go_at_call 21; refine (sized_yes 1 (by omega) (by omega) _).mono ?_; rintro e w' ⟨rfl, rfl⟩) | (go_at_call 16; refine (Take_nil 1 _).mono ?_; rintro e w' ⟨rfl, rfl⟩))
  go_ret2
  exact ⟨rfl, rfl⟩

set_option maxHeartbeats 1000000 in
theorem Sub_nil (z : Int) (w : World) : Calls Try.prog 17 #[.pointer none, .int .i64 z] w fun e w' => e = .returned (.tuple #[.pointer none, .int .i64 1]) ∧ w' = w := by
  go_enter Try.func17, Try.ntmps17
  go_wp2_with (go_at_call 16; refine (Take_nil z _).mono ?_; rintro e w' ⟨rfl, rfl⟩)
  go_ret2
  exact ⟨rfl, rfl⟩

/-- Sub: nil beside an error, else a cursor of its own, in a new block. -/
theorem Sub_any (k : Nat) (s : ByteArray) (a : Nat) (z : Int) (w : World) (h : Cur k s a w) (hs : s.size ≤ maxLen) (ha : a ≤ s.size) :
    Calls Try.prog 17 #[.pointer (some ⟨k, 0, none⟩), .int .i64 z] w fun e w' => ∃ p, e = .returned (.tuple #[.pointer p, .int .i64 (taken s a z).2.2]) ∧ Cur k s (taken s a z).2.1 w' ∧ But k w w' ∧
      ((p = none ∧ (taken s a z).2.2 ≠ 0 ∧ (taken s a z).1 = ⟨#[]⟩) ∨ ∃ j, p = some ⟨j, 0, none⟩ ∧ (taken s a z).2.2 = 0 ∧ w.heap.size ≤ j ∧ Cur j (taken s a z).1 0 w') := by
  have hT := Take_any k s a z w h hs ha
  have hk := h.lt
  have hc : (taken s a z).2.2 = 0 ∨ ((taken s a z).2.2 = 1 ∧ (taken s a z).1 = ⟨#[]⟩) ∨ ((taken s a z).2.2 = 2 ∧ (taken s a z).1 = ⟨#[]⟩) := by
    unfold taken
    split
    · exact .inr (.inl ⟨rfl, rfl⟩)
    split
    · exact .inr (.inr ⟨rfl, rfl⟩)
    · exact .inl rfl
  generalize taken s a z = T at hT hc
  obtain ⟨t, b, c⟩ := T
  simp only at hT hc ⊢
  have HT := Lib.hid hT
  clear hT h
  rcases hc with rfl | ⟨rfl, rfl⟩ | ⟨rfl, rfl⟩
  · go_enter Try.func17, Try.ntmps17
    go_wp2_with fail
    go_at_call 16
    refine HT.out.mono ?_
    rintro e w1 ⟨rfl, c1, b1⟩
    have HC := Lib.hid c1
    have HB := Lib.hid b1
    have hs1 := b1.size
    clear c1 b1
    go_wp2_with (go_at_call 10; refine (New_any t w1).mono ?_; rintro e w' ⟨rfl, rfl⟩)
    go_ret2
    refine ⟨_, rfl, ?_, HB.out.alloc _, .inr ⟨w1.heap.size, rfl, trivial, hs1, heap_alloc_new _ _⟩⟩
    exact (Below.heap_alloc _ _ _ HC.out.lt).trans HC.out
  all_goals
    go_enter Try.func17, Try.ntmps17
    go_wp2_with fail
    go_at_call 16
    refine HT.out.mono ?_
    rintro e w1 ⟨rfl, c1, b1⟩
    have HC := Lib.hid c1
    have HB := Lib.hid b1
    clear c1 b1
    go_wp2
    go_ret2
    exact ⟨none, rfl, HC.out, HB.out, .inl ⟨rfl, by decide, trivial⟩⟩

set_option maxHeartbeats 1000000 in
theorem Rest_any (k : Nat) (s : ByteArray) (a : Nat) (w : World) (h : Cur k s a w) (hs : s.size ≤ maxLen) (ha : a ≤ s.size) :
    Calls Try.prog 18 #[.pointer (some ⟨k, 0, none⟩)] w fun e w' => e = .returned (.string (s.extract a s.size)) ∧ Cur k s s.size w' ∧ But k w w' := by
  have H := Lib.hid h
  have HM := Lib.hid hs
  clear h hs
  go_enter Try.func18, Try.ntmps18
  go_wp2_with fail
  go_at_call 13
  refine (Left_any k s a w H.out ha HM.out).mono ?_
  rintro e w1 ⟨rfl, n1, rfl⟩
  have hT := Take_yes k s a (s.size - a) (w.drewN n1) H.out HM.out (by omega)
  rw [show a + (s.size - a) = s.size by omega] at hT
  have HT := Lib.hid hT
  clear hT
  go_wp2_with fail
  go_at_call 16
  refine HT.out.mono ?_
  rintro e w2 ⟨rfl, c2, b2⟩
  have HC := Lib.hid c2
  have HB := Lib.hid (((But.refl k w).drewN n1).trans b2)
  clear c2 b2
  go_wp2
  go_ret
  exact ⟨rfl, HC.out, HB.out⟩
set_option maxHeartbeats 1000000 in
theorem Rest_nil (w : World) : Calls Try.prog 18 #[.pointer none] w fun e w' => e = .returned (.string ⟨#[]⟩) ∧ w' = w := by
  go_enter Try.func18, Try.ntmps18
  go_wp2_with (first | (go_at_call 13; refine (Left_nil _).mono ?_; rintro e w' ⟨rfl, rfl⟩) | (go_at_call 16; refine (Take_nil 0 _).mono ?_; rintro e w' ⟨rfl, rfl⟩))
  go_ret
  exact ⟨rfl, rfl⟩
end Go.Proofs.Ytdfanplihheofaa
