/- The reader of a body: take, pair, more, place. -/
import Derived.Test.YtfohgocdabgbgaaDoorSRd
namespace Go.Proofs.YtfohgocdabgbgaaDoor
open Go.RowKit

/-- The two numbers of one byte. -/
def rpair (s : ByteArray) (p : Nat × Nat) : (Nat × Nat) × (Nat × Nat) := (((rnum s 1 p).1 / 16, (rnum s 1 p).1 % 16), (rnum s 1 p).2)
/-- Whether another table follows. -/
def rmore (s : ByteArray) (p : Nat × Nat) : Bool := decide (p.2 = 0) && decide (0 < s.size - p.1)
/-- Which kind of table comes, and its place. -/
def rplace (s : ByteArray) (p : Nat × Nat) : (Nat × Nat) × (Nat × Nat) := ((rpair s p).1, rneed (decide ((rpair s p).1.1 ≤ 1) && decide ((rpair s p).1.2 ≤ 3)) 5 (rpair s p).2)

theorem num_one (s : ByteArray) (a : Nat) (h : a + 1 ≤ s.size) : num (s.extract a (a + 1)).data.toList 0 < 256 := by
  have h1 := num_lt (s.extract a (a + 1)).data.toList
  have h2 : (s.extract a (a + 1)).data.toList.length = 1 := by simp; omega
  rw [h2] at h1
  simpa using h1
theorem rnum_one (s : ByteArray) (p : Nat × Nat) : (rnum s 1 p).1 < 256 := by
  unfold rnum
  by_cases h0 : p.2 = 0
  · rw [if_pos h0]
    by_cases h : s.size - p.1 < 1
    · rw [if_pos h]; exact Nat.zero_lt_succ 255
    · rw [if_neg h]; exact num_one s p.1 (by omega)
  · rw [if_neg h0]; exact Nat.zero_lt_succ 255

set_option maxHeartbeats 1000000 in
theorem pair_two (B k c : Nat) (s : ByteArray) (hs : s.size ≤ maxLen) (p : Nat × Nat) (w : World) (h : Rdd B k c s p w) :
    Calls Tryd.prog 63 #[.pointer (some ⟨k, 0, none⟩)] w fun e w' => e = .returned (.tuple #[.int .i64 (rpair s p).1.1, .int .i64 (rpair s p).1.2]) ∧ Rdd B k c s (rpair s p).2 w' ∧ Two k c w w' := by
  have HN := Lib.hid (num_two B k c s hs p 1 (by omega) (by omega) w h)
  have hv := rnum_one s p
  unfold rpair
  simp only []
  generalize (rnum s 1 p).1 = v at *
  clear h
  have e1 : (v : Int).tdiv 16 = ((v / 16 : Nat) : Int) := rfl
  have e2 : (v : Int).tmod 16 = ((v % 16 : Nat) : Int) := rfl
  go_enter Tryd.func63, Tryd.ntmps63
  go_wp2_with (go_at_call 46; refine HN.out.mono ?_; rintro e w1 ⟨rfl, hr, hb⟩; have H1 := Lib.hid hr; have HB1 := Lib.hid hb; clear hr hb HN)
  go_ret2
  refine ⟨?_, H1.out, HB1.out⟩
  simp

set_option maxHeartbeats 1000000 in
theorem more_two (B k c : Nat) (s : ByteArray) (hs : s.size ≤ maxLen) (p : Nat × Nat) (w : World) (h : Rdd B k c s p w) :
    Calls Tryd.prog 60 #[.pointer (some ⟨k, 0, none⟩)] w fun e w' => e = .returned (.bool (rmore s p)) ∧ Rdd B k c s p w' ∧ Two k c w w' := by
  have H := Lib.hid h
  have x0 := h.ce
  have x1 := h.cc
  have HL := Lib.hid (Left_any c s p.1 w h.cur h.le hs)
  clear h
  by_cases h0 : p.2 = 0
  · have e0 : ((p.2 : Int) == 0) = true := by rw [beq_iff_eq]; omega
    have HR : Hid (rmore s p = decide (0 < s.size - p.1)) := by unfold Hid rmore; simp [h0]
    rw [HR.out]
    generalize s.size - p.1 = m at *
    clear h0
    generalize hp : (p.2 : Int) = z at *
    go_enter Tryd.func60, Tryd.ntmps60
    go_wp2_with (go_at_call 24; refine HL.out.mono ?_; rintro e w1 ⟨rfl, n, rfl⟩; clear HL)
    go_ret
    exact ⟨by simp, H.out.draw _, (Two.refl _ _ _).draw _⟩
  · have e0 : ((p.2 : Int) == 0) = false := by rw [beq_eq_false_iff_ne]; omega
    have HR : Hid (rmore s p = false) := by unfold Hid rmore; simp [h0]
    rw [HR.out]
    clear h0
    generalize hp : (p.2 : Int) = z at *
    go_enter Tryd.func60, Tryd.ntmps60
    go_wp2
    go_ret
    exact ⟨by simp, H.out, Two.refl _ _ _⟩

set_option maxHeartbeats 1000000 in
theorem place_two (B k c : Nat) (s : ByteArray) (hs : s.size ≤ maxLen) (p : Nat × Nat) (w : World) (h : Rdd B k c s p w) :
    Calls Tryd.prog 76 #[.pointer (some ⟨k, 0, none⟩)] w fun e w' => e = .returned (.tuple #[.int .i64 (rplace s p).1.1, .int .i64 (rplace s p).1.2]) ∧ Rdd B k c s (rplace s p).2 w' ∧ Two k c w w' := by
  have HP := Lib.hid (pair_two B k c s hs p w h)
  unfold rplace
  simp only []
  generalize (rpair s p).1.1 = a at *
  generalize (rpair s p).1.2 = b at *
  generalize (rpair s p).2 = q at *
  clear h
  by_cases h1 : a ≤ 1
  · have e1 : decide ((a : Int) ≤ 1) = true := decide_eq_true (by omega)
    have HD : Hid ((decide (a ≤ 1) && decide (b ≤ 3)) = decide ((b : Int) ≤ 3)) := by unfold Hid; simp [h1]; omega
    rw [HD.out]
    clear h1
    obtain ⟨r, hr⟩ : ∃ r, r = decide ((b : Int) ≤ 3) := ⟨_, rfl⟩
    rw [← hr]
    have HN := Lib.hid fun x hx => need_any B k c s q r 5 x hx
    have hr' := hr.symm
    clear hr
    go_enter Tryd.func76, Tryd.ntmps76
    go_wp2_with (first
      | (go_at_call 63; refine HP.out.mono ?_; rintro e w1 ⟨rfl, hr, hb⟩; have H1 := Lib.hid hr; have HB1 := Lib.hid hb; clear hr hb HP)
      | (go_at_call 23; refine (HN.out _ H1.out).mono ?_; rintro e w2 ⟨rfl, hr, _, hb⟩; have H2 := Lib.hid hr; have HB2 := Lib.hid (HB1.out.trans (Two.left hb)); clear hr hb HN))
    go_ret2
    exact ⟨rfl, H2.out, HB2.out⟩
  · have e1 : decide ((a : Int) ≤ 1) = false := decide_eq_false (by omega)
    have HD : Hid ((decide (a ≤ 1) && decide (b ≤ 3)) = false) := by unfold Hid; simp [h1]
    rw [HD.out]
    clear h1
    have HN := Lib.hid fun x hx => need_any B k c s q false 5 x hx
    go_enter Tryd.func76, Tryd.ntmps76
    go_wp2_with (first
      | (go_at_call 63; refine HP.out.mono ?_; rintro e w1 ⟨rfl, hr, hb⟩; have H1 := Lib.hid hr; have HB1 := Lib.hid hb; clear hr hb HP)
      | (go_at_call 23; refine (HN.out _ H1.out).mono ?_; rintro e w2 ⟨rfl, hr, _, hb⟩; have H2 := Lib.hid hr; have HB2 := Lib.hid (HB1.out.trans (Two.left hb)); clear hr hb HN))
    go_ret2
    exact ⟨rfl, H2.out, HB2.out⟩

set_option maxHeartbeats 1000000 in
theorem take_two (B k c : Nat) (s : ByteArray) (hs : s.size ≤ maxLen) (p : Nat × Nat) (m : Nat) (w : World) (h : Rdd B k c s p w) :
    Calls Tryd.prog 77 #[.pointer (some ⟨k, 0, none⟩), .int .i64 m] w fun e w' => e = .returned (.string (rtake s m p).1) ∧ Rdd B k c s (rtake s m p).2 w' ∧ Two k c w w' := by
  have H := Lib.hid h
  have x0 := h.ce
  have x1 := h.cc
  by_cases h0 : p.2 = 0
  · have e0 : ((p.2 : Int) != 0) = false := by simp [h0]
    have HN := Lib.hid (Take_any c s p.1 m w h.cur hs h.le)
    unfold taken at HN
    rw [if_neg (by omega : ¬ (m : Int) < 0)] at HN
    by_cases hsh : s.size - p.1 < m
    · rw [if_pos (by omega)] at HN
      have HR : Hid (rtake s m p = (⟨#[]⟩, (p.1, 4))) := by unfold Hid rtake; rw [if_pos h0, if_pos hsh]
      have HD : Hid (rneed false 4 (p.1, p.2) = (p.1, 4)) := if_pos ⟨h0, rfl⟩
      clear hsh h0 h
      rw [HR.out]
      generalize hp : (p.2 : Int) = z at *
      go_enter Tryd.func77, Tryd.ntmps77
      go_wp2_with (first
        | (go_at_call 69; refine HN.out.mono ?_; rintro e w1 ⟨rfl, hc, hb⟩; have H1 := Lib.hid (H.out.moved hc hb H.out.le); have HB1 := Lib.hid (Two.right (k := k) hb); clear hc hb HN)
        | (go_at_call 23; refine (need_any B k c s _ false 4 w1 H1.out).mono ?_; rintro e w2 ⟨rfl, hr, _, hb2⟩; have H2 := Lib.hid hr; have HB2 := Lib.hid (HB1.out.trans (Two.left hb2)); clear hr hb2))
      go_ret
      exact ⟨rfl, by rw [← HD.out]; exact H2.out, HB2.out⟩
    · rw [if_neg (by omega)] at HN
      rw [Int.toNat_natCast] at HN
      have HR : Hid (rtake s m p = (s.extract p.1 (p.1 + m), (p.1 + m, 0))) := by unfold Hid rtake; rw [if_pos h0, if_neg hsh]
      have HD : Hid (rneed true 4 (p.1 + m, p.2) = (p.1 + m, 0)) := by
        unfold Hid rneed
        rw [if_neg (fun h => by cases h.2), h0]
      have hle : p.1 + m ≤ s.size := by have := h.le; omega
      clear hsh h0 h
      rw [HR.out]
      generalize s.extract p.1 (p.1 + m) = v at *
      generalize hp : (p.2 : Int) = z at *
      go_enter Tryd.func77, Tryd.ntmps77
      go_wp2_with (first
        | (go_at_call 69; refine HN.out.mono ?_; rintro e w1 ⟨rfl, hc, hb⟩; have H1 := Lib.hid (H.out.moved hc hb hle); have HB1 := Lib.hid (Two.right (k := k) hb); clear hc hb HN)
        | (go_at_call 23; refine (need_any B k c s _ true 4 w1 H1.out).mono ?_; rintro e w2 ⟨rfl, hr, _, hb2⟩; have H2 := Lib.hid hr; have HB2 := Lib.hid (HB1.out.trans (Two.left hb2)); clear hr hb2))
      go_ret
      exact ⟨rfl, by rw [← HD.out]; exact H2.out, HB2.out⟩
  · have e0 : ((p.2 : Int) != 0) = true := by simp; omega
    have HR : Hid (rtake s m p = (⟨#[]⟩, p)) := if_neg h0
    clear h0 h
    rw [HR.out]
    generalize hp : (p.2 : Int) = z at *
    go_enter Tryd.func77, Tryd.ntmps77
    go_wp2
    go_ret
    exact ⟨rfl, H.out, Two.refl _ _ _⟩
theorem pair_any (B k c : Nat) (s : ByteArray) (hs : s.size ≤ maxLen) (p : Nat × Nat) (w : World) (h : Rdd B k c s p w) :
    Calls Tryd.prog 63 #[.pointer (some ⟨k, 0, none⟩)] w fun e w' => e = .returned (.tuple #[.int .i64 (rpair s p).1.1, .int .i64 (rpair s p).1.2]) ∧ Rdd B k c s ((rpair s p).2) w' ∧ Below B w w' :=
  (pair_two B k c s hs p w h).mono fun _ _ ⟨h2, h3, h5⟩ => ⟨h2, h3, h5.below h.bk h.bc h.lt⟩
theorem more_any (B k c : Nat) (s : ByteArray) (hs : s.size ≤ maxLen) (p : Nat × Nat) (w : World) (h : Rdd B k c s p w) :
    Calls Tryd.prog 60 #[.pointer (some ⟨k, 0, none⟩)] w fun e w' => e = .returned (.bool (rmore s p)) ∧ Rdd B k c s (p) w' ∧ Below B w w' :=
  (more_two B k c s hs p w h).mono fun _ _ ⟨h2, h3, h5⟩ => ⟨h2, h3, h5.below h.bk h.bc h.lt⟩
theorem place_any (B k c : Nat) (s : ByteArray) (hs : s.size ≤ maxLen) (p : Nat × Nat) (w : World) (h : Rdd B k c s p w) :
    Calls Tryd.prog 76 #[.pointer (some ⟨k, 0, none⟩)] w fun e w' => e = .returned (.tuple #[.int .i64 (rplace s p).1.1, .int .i64 (rplace s p).1.2]) ∧ Rdd B k c s ((rplace s p).2) w' ∧ Below B w w' :=
  (place_two B k c s hs p w h).mono fun _ _ ⟨h2, h3, h5⟩ => ⟨h2, h3, h5.below h.bk h.bc h.lt⟩
theorem take_any (B k c : Nat) (s : ByteArray) (hs : s.size ≤ maxLen) (p : Nat × Nat) (m : Nat) (w : World) (h : Rdd B k c s p w) :
    Calls Tryd.prog 77 #[.pointer (some ⟨k, 0, none⟩), .int .i64 m] w fun e w' => e = .returned (.string (rtake s m p).1) ∧ Rdd B k c s ((rtake s m p).2) w' ∧ Below B w w' :=
  (take_two B k c s hs p m w h).mono fun _ _ ⟨h2, h3, h5⟩ => ⟨h2, h3, h5.below h.bk h.bc h.lt⟩
end Go.Proofs.YtfohgocdabgbgaaDoor
