/- The writer by its bits: what Put, Mark and Bytes do. -/
import Derived.Test.YtmoennlpendknaaWtr
namespace Go.Proofs.Ytmoennlpendknaa
open Go.RowKit

/-- The bits that Put puts, and its error. -/
def putBits (v z : Int) : List Bool := if z < 0 ∨ 16 < z then [] else if v < 0 ∨ ((2 ^ z.toNat : Nat) : Int) ≤ v then [] else bitsOf v.toNat z.toNat
def putErr (v z : Int) : Nat := if z < 0 ∨ 16 < z then 1 else if v < 0 ∨ ((2 ^ z.toNat : Nat) : Int) ≤ v then 11 else 0
/-- A writer of these bytes and bits stands in this block. -/
def WB (B k : Nat) (D : List UInt8) (L : List Bool) (w : World) : Prop := Wr B k (D ++ whole L) (val (rest L)) L.length w

theorem part_lt (L : List Bool) : val (rest L) < 2 ^ (L.length % 8) := by have := val_lt (rest L); rwa [rest_length] at this
theorem whole_le (L : List Bool) : (whole L).length ≤ L.length := by have := whole_length (L.length / 8) L (by omega); omega
theorem fillb_stuff (L : List Bool) : whole L ++ fillb (val (rest L)) L.length = stuff L := by
  unfold fillb
  by_cases h : L.length % 8 = 0
  · rw [if_pos h, List.append_nil, stuff_even L h]
  · rw [if_neg h, stuff_odd L h]
theorem emit_put (L : List Bool) (v n : Nat) (hv : v < 2 ^ n) : whole L ++ emit (L.length % 8 + n) (val (rest L) * 2 ^ n + v) = whole (L ++ bitsOf v n) := by
  have h := emit_val (rest L ++ bitsOf v n)
  rw [val_append, bitsOf_length, val_bitsOf_lt v n hv, List.length_append, rest_length, bitsOf_length] at h
  rw [h, whole_rest L]
theorem part_put (L : List Bool) (v n : Nat) (hv : v < 2 ^ n) : (val (rest L) * 2 ^ n + v) % 2 ^ ((L.length % 8 + n) % 8) = val (rest (L ++ bitsOf v n)) := by
  rw [rest_rest]
  have hl : (rest L ++ bitsOf v n).length = L.length % 8 + n := by rw [List.length_append, rest_length, bitsOf_length]
  generalize hR : rest L ++ bitsOf v n = R at hl
  have hval : val R = val (rest L) * 2 ^ n + v := by rw [← hR, val_append, bitsOf_length, val_bitsOf_lt v n hv]
  rw [← hval]
  unfold rest
  rw [val_drop, hl]
  congr 2
  omega

theorem Put_any (B k : Nat) (D : List UInt8) (L : List Bool) (v z : Int) (w : World) (h : WB B k D L w) (hlen : D.length + L.length ≤ 800000) :
    Calls Try.prog 32 #[.pointer (some ⟨k, 0, none⟩), .int .i64 v, .int .i64 z] w fun e w' => e = .returned (.int .i64 (putErr v z)) ∧ WB B k D (L ++ putBits v z) w' ∧ Below B w w' ∧ Lib.OthersKept 5 (some k) w w' := by
  unfold putBits putErr
  split
  · rename_i hz
    exact (Put_arg k v z w hz).mono fun e w' ⟨he, hw⟩ => ⟨he, by rw [List.append_nil]; exact hw ▸ h, hw ▸ Below.refl _ _, hw ▸ Lib.OthersKept.refl _ _ _⟩
  rename_i hz
  obtain ⟨n, rfl⟩ := Int.eq_ofNat_of_zero_le (show 0 ≤ z by omega)
  split
  · rename_i hv
    exact (Put_large k v n w (by simpa using hv) (by omega)).mono fun e w' ⟨he, hw⟩ => ⟨he, by rw [List.append_nil]; exact hw ▸ h, hw ▸ Below.refl _ _, hw ▸ Lib.OthersKept.refl _ _ _⟩
  · rename_i hv
    simp only [Int.toNat_natCast] at hv ⊢
    obtain ⟨x, rfl⟩ := Int.eq_ofNat_of_zero_le (show 0 ≤ v by omega)
    have hx : x < 2 ^ n := by omega
    have hw := whole_le L
    refine (Put_yes B k (D ++ whole L) (val (rest L)) L.length x n w h hx (by omega) (by omega) (part_lt L) (by rw [List.length_append]; omega)).mono ?_
    rintro e w' ⟨he, h1, h2, h3⟩
    refine ⟨he, ?_, h2, h3⟩
    unfold WB
    rw [List.append_assoc, emit_put L x n hx, part_put L x n hx] at h1
    rw [List.length_append, bitsOf_length, Int.toNat_natCast]
    exact h1
theorem Bytes_bits (B k : Nat) (D : List UInt8) (L : List Bool) (w : World) (h : WB B k D L w) (hlen : D.length + L.length ≤ 800000) :
    Calls Try.prog 15 #[.pointer (some ⟨k, 0, none⟩)] w fun e w' => e = .returned (.string ⟨(D ++ stuff L).toArray⟩) ∧ Below w.heap.size w w' := by
  have hw := whole_le L
  have := Bytes_any B k (D ++ whole L) (val (rest L)) L.length w h (by omega) (part_lt L) (by rw [List.length_append]; omega)
  rw [List.append_assoc, fillb_stuff] at this
  exact this
theorem New_bits (w : World) : Calls Try.prog 11 #[] w fun e w' => e = .returned (.pointer (some ⟨w.heap.size, 0, none⟩)) ∧ WB w.heap.size w.heap.size [] [] w' ∧ Below w.heap.size w w' :=
  (NewWriter_any w).mono fun e w' ⟨he, h1, h2⟩ => ⟨he, by unfold WB; rw [whole_short [] (by simp)]; exact h1, h2⟩
theorem WB.lt {B k : Nat} {D : List UInt8} {L : List Bool} {w : World} (h : WB B k D L w) : k < w.heap.size := by
  obtain ⟨_, v, hv, _⟩ := h
  exact (Array.getElem?_eq_some_iff.1 hv).1
theorem WB.low {B k : Nat} {D : List UInt8} {L : List Bool} {w : World} (h : WB B k D L w) : B ≤ k := h.1
theorem WB.on {B k : Nat} {D : List UInt8} {L : List Bool} {w w' : World} (h : WB B k D L w) (hb : Below w.heap.size w w') : WB B k D L w' := by
  obtain ⟨h1, v, hv, ho⟩ := h
  exact ⟨h1, v, WrV.on (v := v) hv hb, ho.below hb⟩
end Go.Proofs.Ytmoennlpendknaa
