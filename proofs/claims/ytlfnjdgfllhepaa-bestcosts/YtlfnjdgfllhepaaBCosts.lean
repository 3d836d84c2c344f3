/- BestCosts answers true at every array of 256 numbers, every counts and every symbols. -/
import Derived.Test.YtlfnjdgfllhepaaBCostY
namespace Go.Proofs.Ytlfnjdgfllhepaa
open Go.RowKit

theorem BestCosts_any (fi : Nat → Int) (c : Nat → Nat) (s : ByteArray) (w : World) (hc : ∀ i, c i < 256) (hs : s.size ≤ maxLen) :
    Calls Try.prog 6 #[.agg (ints 256 fi), .agg (cnt c), .string s] w fun e w' => e = .returned (.bool true) ∧ Below w.heap.size w w' := by
  by_cases h1 : 256 < s.size
  · exact BestCosts_long fi c s h1 hs w
  · by_cases hR : Right c s.data.toList
    · by_cases hO : Okf fi
      · by_cases hm : ∃ x, x < 256 ∧ (fi x).toNat ≠ 0 ∧ x.toUInt8 ∉ s.data.toList
        · refine BestCosts_right fi c hc s (by omega) hR 0 false 256 rfl _ rfl (.inl ⟨rfl, rfl, ?_⟩) (fun k w h => Cost_any (fun i => (fi i).toNat) fi (okf_nat hO) (okf_le hO) k c hc s hR 0 false (.inr ⟨rfl, rfl, hm⟩) w h) w
          obtain ⟨x, hx, h2, h3⟩ := hm
          exact ⟨x, hx, .inr (.inr ⟨by have := hO x hx; omega, h3⟩)⟩
        · have hall : ∀ x, x < 256 → (fi x).toNat ≠ 0 → x.toUInt8 ∈ s.data.toList := fun x hx h2 => by
            by_cases h3 : x.toUInt8 ∈ s.data.toList
            · exact h3
            · exact absurd ⟨x, hx, h2, h3⟩ hm
          refine BestCosts_right fi c hc s (by omega) hR _ true 256 rfl _ rfl (.inr ⟨rfl, rfl, fun x hx hb => ?_⟩) (fun k w h => Cost_any (fun i => (fi i).toNat) fi (okf_nat hO) (okf_le hO) k c hc s hR _ true (.inl ⟨rfl, rfl, hall⟩) w h) w
          have h4 := hO x hx
          unfold Bad at hb
          rcases hb with hb | hb | ⟨hb, h5⟩
          · omega
          · omega
          · exact h5 (hall x hx (by omega))
      · refine BestCosts_right fi c hc s (by omega) hR 0 false 256 rfl _ rfl (.inl ⟨rfl, rfl, ?_⟩) (fun k w _ => Cost_bad fi hO k w) w
        by_cases hx : ∃ x, x < 256 ∧ (fi x < 0 ∨ fi x > 1099511627776)
        · obtain ⟨x, hx, h2 | h2⟩ := hx
          · exact ⟨x, hx, .inl h2⟩
          · exact ⟨x, hx, .inr (.inl h2)⟩
        · refine absurd (fun i hi => ?_) hO
          have h3 : ¬ (fi i < 0 ∨ fi i > 1099511627776) := fun h => hx ⟨i, hi, h⟩
          omega
    · exact BestCosts_none fi c hc s (by omega) hR w
end Go.Proofs.Ytlfnjdgfllhepaa
