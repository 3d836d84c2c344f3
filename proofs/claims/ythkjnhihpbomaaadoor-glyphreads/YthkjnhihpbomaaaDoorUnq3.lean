/- Walks of package glyph: unquoteRune, unquoteBackslash. -/
import Derived.Test.YthkjnhihpbomaaaDoorUnq2
namespace Go.Proofs.YthkjnhihpbomaaaDoor
open Go.RowKit

theorem validRune_eq (n : Nat) : Lib.validRune (n : Int) = decide (¬ (1114111 < n ∨ (55296 ≤ n ∧ n ≤ 57343))) := by
  unfold Lib.validRune
  rw [Bool.eq_iff_iff]
  simp
  omega

set_option maxHeartbeats 2000000 in
theorem unquoteRune_any (B : Nat) (v : Value) (acc : List UInt8) (s : ByteArray) (hs : s.size ≤ 1000000) (p : Nat) (hp : p ≤ s.size) (w : World) (hB : B ≤ w.heap.size) (hown : Owns B v acc w) (hlen : acc.length ≤ 100000000) :
    Calls Tryd.prog 48 #[v, .string s, .int .i64 p] w (Put B acc w (escU s p)) := by
  have HO := Lib.hid hown
  clear hown
  by_cases h1 : ¬ p < s.size
  · have hx : escU s p = ([], p, 2) := by rw [escU, if_pos h1]
    obtain rfl : p = s.size := by omega
    rw [hx]
    clear hx
    have E := Lib.hid (expect_short s 123 w)
    go_enter Tryd.func48, Tryd.ntmps48
    go_wp2_with (go_at_call 32; refine E.out.mono ?_; rintro e w' ⟨rfl, rfl⟩)
    go_ret3
    exact ⟨_, rfl, (fun h => by simp at h), Kept.refl _ _⟩
  have h1 : p < s.size := by omega
  by_cases h2 : byt s p ≠ 123
  · have hx : escU s p = ([], p, 16) := by rw [escU, if_neg (by omega), if_pos h2]
    rw [hx]
    have E := Lib.hid (expect_wrong s hs p 123 h1 (by rw [bne_iff_ne]; omega) w)
    clear hx
    go_enter Tryd.func48, Tryd.ntmps48
    go_wp2_with (go_at_call 32; refine E.out.mono ?_; rintro e w' ⟨rfl, rfl⟩)
    go_ret3
    exact ⟨_, rfl, (fun h => by simp at h), Kept.refl _ _⟩
  have h2 : byt s p = 123 := by omega
  have E0 := Lib.hid (expect_right s hs p 123 h1 h2 w)
  have hnm := number_any s hs (p + 1) (by omega) w
  have hpl := num_place s 6 (p + 1) 0 (by omega)
  have hnl := num_lt s 6 (p + 1) 0
  have hu : escU s p = if ¬ (num s 6 (p + 1) 0).2 < s.size then ([], (num s 6 (p + 1) 0).2, 2)
      else if byt s (num s 6 (p + 1) 0).2 ≠ 125 then ([], (num s 6 (p + 1) 0).2, 16)
      else if (num s 6 (p + 1) 0).2 = p + 1 ∨ 1114111 < (num s 6 (p + 1) 0).1 ∨ (55296 ≤ (num s 6 (p + 1) 0).1 ∧ (num s 6 (p + 1) 0).1 ≤ 57343) then ([], (num s 6 (p + 1) 0).2, 16)
      else (Lib.encodeRune ((num s 6 (p + 1) 0).1 : Nat), (num s 6 (p + 1) 0).2 + 1, 0) := by
    rw [escU, if_neg (by omega), if_neg (by omega)]
  rw [hu]
  generalize num s 6 (p + 1) 0 = N at hnm hpl hnl
  obtain ⟨n, q⟩ := N
  simp only at hnm hpl hnl ⊢
  obtain ⟨hq1, hq2, hq3⟩ := hpl
  rw [show ((p + 1 : Nat) : Int) = (p : Int) + 1 by omega] at hnm
  have HN := Lib.hid hnm
  clear hnm hu
  by_cases h3 : ¬ q < s.size
  · rw [if_pos h3]
    obtain rfl : q = s.size := by omega
    have E1 := Lib.hid (expect_short s 125 w)
    go_enter Tryd.func48, Tryd.ntmps48
    go_wp2_with fail
    go_at_call 32
    refine E0.out.mono ?_
    rintro e w' ⟨rfl, rfl⟩
    go_wp2_with (first
      | (go_at_call 53; refine HN.out.mono ?_; rintro e w' ⟨rfl, rfl⟩)
      | (go_at_call 32; refine E1.out.mono ?_; rintro e w' ⟨rfl, rfl⟩))
    go_ret3
    exact ⟨_, rfl, (fun h => by simp at h), Kept.refl _ _⟩
  have h3 : q < s.size := by omega
  rw [if_neg (by omega)]
  by_cases h4 : byt s q ≠ 125
  · rw [if_pos h4]
    have E1 := Lib.hid (expect_wrong s hs q 125 h3 (by rw [bne_iff_ne]; omega) w)
    clear h4
    go_enter Tryd.func48, Tryd.ntmps48
    go_wp2_with fail
    go_at_call 32
    refine E0.out.mono ?_
    rintro e w' ⟨rfl, rfl⟩
    go_wp2_with (first
      | (go_at_call 53; refine HN.out.mono ?_; rintro e w' ⟨rfl, rfl⟩)
      | (go_at_call 32; refine E1.out.mono ?_; rintro e w' ⟨rfl, rfl⟩))
    go_ret3
    exact ⟨_, rfl, (fun h => by simp at h), Kept.refl _ _⟩
  have h4 : byt s q = 125 := by omega
  rw [if_neg (by omega)]
  have E1 := Lib.hid (expect_right s hs q 125 h3 h4 w)
  have hv := Tryd.utf8_ValidRune (n : Int) w
  rw [validRune_eq] at hv
  clear h2 h4
  by_cases h5 : q = p + 1
  · rw [if_pos (Or.inl h5)]
    have h5' : ((q : Int) == (p : Int) + 1) = true := beq_iff_eq.2 (by omega)
    clear hv h5
    go_enter Tryd.func48, Tryd.ntmps48
    go_wp2_with fail
    go_at_call 32
    refine E0.out.mono ?_
    rintro e w' ⟨rfl, rfl⟩
    go_wp2_with (first
      | (go_at_call 53; refine HN.out.mono ?_; rintro e w' ⟨rfl, rfl⟩)
      | (go_at_call 32; refine E1.out.mono ?_; rintro e w' ⟨rfl, rfl⟩))
    go_ret3
    exact ⟨_, rfl, (fun h => by simp at h), Kept.refl _ _⟩
  have h5' : ((q : Int) == (p : Int) + 1) = false := beq_eq_false_iff_ne.2 (by omega)
  by_cases h6 : 1114111 < n ∨ (55296 ≤ n ∧ n ≤ 57343)
  · rw [if_pos (Or.inr h6)]
    rw [show decide (¬ (1114111 < n ∨ (55296 ≤ n ∧ n ≤ 57343))) = false from decide_eq_false (fun h => h h6)] at hv
    have HV := Lib.hid hv
    clear hv h5 h6
    go_enter Tryd.func48, Tryd.ntmps48
    go_wp2_with fail
    go_at_call 32
    refine E0.out.mono ?_
    rintro e w' ⟨rfl, rfl⟩
    go_wp2_with (first
      | (go_at_call 53; refine HN.out.mono ?_; rintro e w' ⟨rfl, rfl⟩)
      | (go_at_call 32; refine E1.out.mono ?_; rintro e w' ⟨rfl, rfl⟩)
      | (go_at_call 54; refine HV.out.mono ?_; rintro e w' ⟨rfl, rfl⟩))
    go_ret3
    exact ⟨_, rfl, (fun h => by simp at h), Kept.refl _ _⟩
  · rw [if_neg (by omega)]
    rw [show decide (¬ (1114111 < n ∨ (55296 ≤ n ∧ n ≤ 57343))) = true from decide_eq_true h6] at hv
    have HV := Lib.hid hv
    have hn1 : n ≤ 1114111 := by omega
    have HA := Lib.hid (appendRune_any B v acc n hn1 w hB HO.out hlen)
    clear hv h5 h6 hnl
    go_enter Tryd.func48, Tryd.ntmps48
    go_wp2_with fail
    go_at_call 32
    refine E0.out.mono ?_
    rintro e w' ⟨rfl, rfl⟩
    go_wp2_with (first
      | (go_at_call 53; refine HN.out.mono ?_; rintro e w' ⟨rfl, rfl⟩)
      | (go_at_call 32; refine E1.out.mono ?_; rintro e w' ⟨rfl, rfl⟩)
      | (go_at_call 54; refine HV.out.mono ?_; rintro e w' ⟨rfl, rfl⟩)
      | (go_at_call 34; refine HA.out.mono ?_; rintro e w2 ⟨v2, rfl, o2, k2⟩))
    have H2 := Lib.hid o2
    clear o2
    go_ret3
    exact ⟨v2, by rw [show ((q + 1 : Nat) : Int) = (q : Int) + 1 by omega]; rfl, fun _ => H2.out, k2⟩
end Go.Proofs.YthkjnhihpbomaaaDoor
