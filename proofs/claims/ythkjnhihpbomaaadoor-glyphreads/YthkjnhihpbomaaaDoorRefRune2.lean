/- The document's rune at a place, for every text. -/
import Derived.Test.YthkjnhihpbomaaaDoorRefRune
namespace Go.Proofs.YthkjnhihpbomaaaDoor
open Go.RowKit

/-- The document's rune at a place. -/
theorem Rune_any (s : ByteArray) (hs : s.size ≤ 1000000) (p : Nat) (hp : p < s.size) (w : World) :
    Calls Tryd.prog 38 #[.string s, .int .i64 p] w fun e w' => e = .returned (.tuple #[.int .i64 (refR s p), .int .i64 ((Utf8.decode s p).2 : Nat)]) ∧ w' = w := by
  have hR := refR_eq s p
  have i0 := idx_str s p hp (p : Int) rfl
  generalize hb0 : (s.get! p).toNat = b0 at hR i0
  have hb0' : b0 < 256 := by rw [← hb0]; exact (s.get! p).toNat_lt
  have hb1 := (s.get! (p + 1)).toNat_lt
  have hb2 := (s.get! (p + 2)).toNat_lt
  have hb3 := (s.get! (p + 3)).toNat_lt
  have fin : ∀ (r : Int) (k : Nat), refN (s.size - p) b0 (s.get! (p + 1)).toNat (s.get! (p + 2)).toNat (s.get! (p + 3)).toNat = (r, k) → refR s p = r ∧ ((Utf8.decode s p).2 : Int) = (k : Int) := by
    intro r k h
    rw [h] at hR
    exact ⟨congrArg Prod.fst hR, by rw [show (Utf8.decode s p).2 = k from congrArg Prod.snd hR]⟩
  by_cases c1 : b0 < 128
  · obtain ⟨h1, h2⟩ := fin _ _ (refN_1 _ b0 _ _ _ c1)
    rw [h1, h2]
    exact Rune_1 s p b0 w i0 (by omega)
  by_cases c2 : 128 ≤ b0 ∧ b0 < 194 ∨ 245 ≤ b0
  · obtain ⟨h1, h2⟩ := fin _ _ (refN_bad (decodeN_none _ b0 _ _ _ c2 hb0'))
    rw [h1, h2]
    exact Rune_none s p b0 w hb0' i0 (by omega)
  by_cases c3 : b0 < 224
  · by_cases hn : p + 1 < s.size
    · refine Rune_c1 s hs p b0 hn w i0 (by omega) (by omega) _ _ ?_ ?_ ?_
      · intro j j1 j2 hj
        obtain rfl : j = 1 := by omega
        exact fin _ _ (refN_bad (decodeN_two_no _ b0 _ _ _ (by omega) c3 (by unfold cont at hj; omega) hb1))
      · intro hall c hc hx
        have k1 := hall 1 (by omega) (by omega)
        unfold cont at k1
        simp only [contv, Nat.zero_add] at hc
        exfalso
        omega
      · intro hall c hc hx
        have k1 := hall 1 (by omega) (by omega)
        unfold cont at k1
        simp only [contv] at hc
        obtain ⟨h1, h2⟩ := fin _ _ (refN_two _ b0 _ _ _ (by omega) c3 (by omega) (by omega) (by omega))
        exact ⟨by rw [h1, hc], h2⟩
    · obtain ⟨h1, h2⟩ := fin _ _ (refN_bad (decodeN_two_no _ b0 _ _ _ (by omega) c3 (by omega) hb1))
      rw [h1, h2]
      exact Rune_short s hs p b0 hp w i0 (by omega)
  by_cases c4 : b0 < 240
  · by_cases hn : p + 2 < s.size
    · refine Rune_c2 s hs p b0 hn w i0 (by omega) (by omega) _ _ ?_ ?_ ?_
      · intro j j1 j2 hj
        refine fin _ _ (refN_bad (decodeN_three_no _ b0 _ _ _ (by omega) c4 (fun h => ?_) hb1 hb2))
        have : j = 1 ∨ j = 2 := by omega
        unfold cont at hj
        rcases this with rfl | rfl <;> omega
      · intro hall c hc hx
        have k1 := hall 1 (by omega) (by omega)
        have k2 := hall 2 (by omega) (by omega)
        unfold cont at k1 k2
        simp only [contv] at hc
        have := refN_three (s.size - p) b0 (s.get! (p + 1)).toNat (s.get! (p + 2)).toNat (s.get! (p + 3)).toNat (by omega) c4 (by omega) (by omega) (by omega) (by omega) (by omega) c hc
        rw [if_pos hx] at this
        exact fin _ _ this
      · intro hall c hc hx
        have k1 := hall 1 (by omega) (by omega)
        have k2 := hall 2 (by omega) (by omega)
        unfold cont at k1 k2
        simp only [contv] at hc
        have := refN_three (s.size - p) b0 (s.get! (p + 1)).toNat (s.get! (p + 2)).toNat (s.get! (p + 3)).toNat (by omega) c4 (by omega) (by omega) (by omega) (by omega) (by omega) c hc
        rw [if_neg hx] at this
        exact fin _ _ this
    · obtain ⟨h1, h2⟩ := fin _ _ (refN_bad (decodeN_three_no _ b0 _ _ _ (by omega) c4 (by omega) hb1 hb2))
      rw [h1, h2]
      exact Rune_short s hs p b0 hp w i0 (by omega)
  · by_cases hn : p + 3 < s.size
    · refine Rune_c3 s hs p b0 hn w i0 (by omega) (by omega) _ _ ?_ ?_ ?_
      · intro j j1 j2 hj
        refine fin _ _ (refN_bad (decodeN_four_no _ b0 _ _ _ (by omega) (by omega) (fun h => ?_) hb1 hb2 hb3))
        have : j = 1 ∨ j = 2 ∨ j = 3 := by omega
        unfold cont at hj
        rcases this with rfl | rfl | rfl <;> omega
      · intro hall c hc hx
        have k1 := hall 1 (by omega) (by omega)
        have k2 := hall 2 (by omega) (by omega)
        have k3 := hall 3 (by omega) (by omega)
        unfold cont at k1 k2 k3
        simp only [contv] at hc
        have := refN_four (s.size - p) b0 (s.get! (p + 1)).toNat (s.get! (p + 2)).toNat (s.get! (p + 3)).toNat (by omega) (by omega) (by omega) (by omega) (by omega) (by omega) (by omega) (by omega) (by omega) c hc
        rw [if_pos hx] at this
        exact fin _ _ this
      · intro hall c hc hx
        have k1 := hall 1 (by omega) (by omega)
        have k2 := hall 2 (by omega) (by omega)
        have k3 := hall 3 (by omega) (by omega)
        unfold cont at k1 k2 k3
        simp only [contv] at hc
        have := refN_four (s.size - p) b0 (s.get! (p + 1)).toNat (s.get! (p + 2)).toNat (s.get! (p + 3)).toNat (by omega) (by omega) (by omega) (by omega) (by omega) (by omega) (by omega) (by omega) (by omega) c hc
        rw [if_neg hx] at this
        exact fin _ _ this
    · obtain ⟨h1, h2⟩ := fin _ _ (refN_bad (decodeN_four_no _ b0 _ _ _ (by omega) (by omega) (by omega) hb1 hb2 hb3))
      rw [h1, h2]
      exact Rune_short s hs p b0 hp w i0 (by omega)
end Go.Proofs.YthkjnhihpbomaaaDoor
