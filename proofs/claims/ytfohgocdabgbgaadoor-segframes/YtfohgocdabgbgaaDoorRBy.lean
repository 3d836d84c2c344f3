/- Walks of the document's reader: byteAt, pair. -/
import Derived.Test.YtfohgocdabgbgaaDoorSRd2
namespace Go.Proofs.YtfohgocdabgbgaaDoor
open Go.RowKit

/-- The byte at a place, or -1. -/
def rby (s : ByteArray) (p : Nat) : Int := if h : p < s.size then (s[p].toNat : Int) else -1
/-- Two bytes' number, or -1. -/
def rby2 (s : ByteArray) (p : Nat) : Int := if p + 1 < s.size then rby s p * 256 + rby s (p + 1) else -1
set_option maxHeartbeats 1000000 in
theorem byteAt_any (s : ByteArray) (p : Nat) (w : World) :
    Calls Tryd.prog 55 #[.string s, .int .i64 p] w fun e w' => e = .returned (.int .i64 (rby s p)) ∧ w = w' := by
  unfold rby
  by_cases h : p < s.size
  · rw [dif_pos h]
    have hb := s[p].toNat_lt
    go_enter Tryd.func55, Tryd.ntmps55
    go_wp2
    go_ret
    exact ⟨rfl, rfl⟩
  · rw [dif_neg h]
    go_enter Tryd.func55, Tryd.ntmps55
    go_wp2
    go_ret
    exact ⟨rfl, rfl⟩
set_option maxHeartbeats 1000000 in
theorem pairAt_any (s : ByteArray) (p : Nat) (hp : p < maxLen) (w : World) :
    Calls Tryd.prog 37 #[.string s, .int .i64 p] w fun e w' => e = .returned (.int .i64 (rby2 s p)) ∧ Below w.heap.size w w' := by
  unfold maxLen at hp
  unfold rby2
  by_cases h : p + 1 < s.size
  · have h0 : p < s.size := by omega
    rw [if_pos h]
    unfold rby
    rw [dif_pos h, dif_pos h0]
    have hb := s[p].toNat_lt
    have hb2 := s[p + 1].toNat_lt
    have hx : ((p : Int) + 1).toNat = p + 1 := by omega
    have w1 : wrap64 ((p : Int) + 1) = (p : Int) + 1 := wrap64_small _ (by omega) (by omega)
    have w2 : wrap64 ((s[p].toNat : Int) * 256) = (s[p].toNat : Int) * 256 := wrap64_small _ (by omega) (by omega)
    have w3 : wrap64 ((s[p].toNat : Int) * 256 + (s[p + 1].toNat : Int)) = (s[p].toNat : Int) * 256 + (s[p + 1].toNat : Int) := wrap64_small _ (by omega) (by omega)
    have v1 : IntKind.i64.wrap ((p : Int) + 1) = (p : Int) + 1 := (IntWalk.i64_left _).trans w1
    have v2 : IntKind.i64.wrap ((s[p].toNat : Int) * 256) = (s[p].toNat : Int) * 256 := (IntWalk.i64_left _).trans w2
    have v3 : IntKind.i64.wrap ((s[p].toNat : Int) * 256 + (s[p + 1].toNat : Int)) = (s[p].toNat : Int) * 256 + (s[p + 1].toNat : Int) := (IntWalk.i64_left _).trans w3
    have l1 : (0 : Int) ≤ (p : Int) + 1 ∧ (p : Int) + 1 < (s.size : Int) := ⟨by omega, by omega⟩
    go_enter Tryd.func37, Tryd.ntmps37
    go_wp2
    go_region
    go_wp2
    go_ret
    exact ⟨rfl, (Below.refl _ _).drew⟩
  · rw [if_neg h]
    go_enter Tryd.func37, Tryd.ntmps37
    go_wp2
    go_ret
    exact ⟨rfl, Below.refl _ _⟩
end Go.Proofs.YtfohgocdabgbgaaDoor
