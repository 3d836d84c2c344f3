/- The writer by its bits: what Put, Mark and Bytes do. -/
import Derived.Test.YtlfnjdgfllhepaaWtr
namespace Go.Proofs.Ytlfnjdgfllhepaa
open Go.RowKit

/-- The bits that Put puts, and its error. -/
def putBits (v z : Int) : List Bool := if z < 0 ∨ 16 < z then [] else if v < 0 ∨ ((2 ^ z.toNat : Nat) : Int) ≤ v then [] else bitsOf v.toNat z.toNat
def putErr (v z : Int) : Nat := if z < 0 ∨ 16 < z then 1 else if v < 0 ∨ ((2 ^ z.toNat : Nat) : Int) ≤ v then 11 else 0
/-- A writer of these bytes and bits stands in this block. -/
def WB (B k : Nat) (D : List UInt8) (L : List Bool) (w : World) : Prop := Wr B k (D ++ whole L) (val (rest L)) L.length w

theorem part_lt (L : List Bool) : val (rest L) < 2 ^ (L.length % 8) := by have := val_lt (rest L); rwa [rest_length] at this
theorem whole_le (L : List Bool) : (whole L).length ≤ L.length := by have := whole_length (L.length / 8) L (by omega); omega
theorem fillb_stuff (L : List Bool) : whole L ++ fillb (val (rest L)) L.length = stuff L := by
  unfold fillb
  by_cases h : L.length % 8 = 0
  · rw [if_pos h, List.append_nil, stuff_even L h]
  · rw [if_neg h, stuff_odd L h]
theorem emit_put (L : List Bool) (v n : Nat) (hv : v < 2 ^ n) : whole L ++ emit (L.length % 8 + n) (val (rest L) * 2 ^ n + v) = whole (L ++ bitsOf v n) := by
  have h := emit_val (rest L ++ bitsOf v n)
  rw [val_append, bitsOf_length, val_bitsOf_lt v n hv, List.length_append, rest_length, bitsOf_length] at h
  rw [h, whole_rest L]
theorem part_put (L : List Bool) (v n : Nat) (hv : v < 2 ^ n) : (val (rest L) * 2 ^ n + v) % 2 ^ ((L.length % 8 + n) % 8) = val (rest (L ++ bitsOf v n)) := by
  rw [rest_rest]
  have hl : (rest L ++ bitsOf v n).length = L.length % 8 + n := by rw [List.length_append, rest_length, bitsOf_length]
  generalize hR : rest L ++ bitsOf v n = R at hl
  have hval : val R = val (rest L) * 2 ^ n + v := by rw [← hR, val_append, bitsOf_length, val_bitsOf_lt v n hv]
  rw [← hval]
  unfold rest
  rw [val_drop, hl]
  congr 2
  omega

theorem WB.lt {B k : Nat} {D : List UInt8} {L : List Bool} {w : World} (h : WB B k D L w) : k < w.heap.size := by
  obtain ⟨_, v, hv, _⟩ := h
  exact (Array.getElem?_eq_some_iff.1 hv).1
theorem WB.low {B k : Nat} {D : List UInt8} {L : List Bool} {w : World} (h : WB B k D L w) : B ≤ k := h.1
theorem WB.on {B k : Nat} {D : List UInt8} {L : List Bool} {w w' : World} (h : WB B k D L w) (hb : Below w.heap.size w w') : WB B k D L w' := by
  obtain ⟨h1, v, hv, ho⟩ := h
  exact ⟨h1, v, WrV.on (v := v) hv hb, ho.below hb⟩
end Go.Proofs.Ytlfnjdgfllhepaa
