/- The writer by its bits: what Put, Mark and Bytes do. -/
import Derived.Test.YtialkpfjllhfkaaWtr
namespace Go.Proofs.Ytialkpfjllhfkaa
open Go.RowKit

/-- The bits that Put puts, and its error. -/
def putBits (v z : Int) : List Bool := if z < 0 ∨ 16 < z then [] else if v < 0 ∨ ((2 ^ z.toNat : Nat) : Int) ≤ v then [] else bitsOf v.toNat z.toNat
def putErr (v z : Int) : Nat := if z < 0 ∨ 16 < z then 1 else if v < 0 ∨ ((2 ^ z.toNat : Nat) : Int) ≤ v then 11 else 0
/-- Bytes up to the last marker, and bits behind it: what Mark makes of them, and its error. -/
def markS (D : List UInt8) (L : List Bool) (z : Int) : List UInt8 × List Bool := if z < 1 ∨ 254 < z then (D, L) else (D ++ stuff L ++ [255, z.toNat.toUInt8], [])
def markErr (z : Int) : Nat := if z < 1 ∨ 254 < z then 1 else 0

/-- A writer of these bytes and bits stands in this block. -/
def WB (B k : Nat) (D : List UInt8) (L : List Bool) (w : World) : Prop := Wr B k (D ++ whole L) (val (rest L)) L.length w

theorem part_lt (L : List Bool) : val (rest L) < 2 ^ (L.length % 8) := by have := val_lt (rest L); rwa [rest_length] at this
theorem whole_le (L : List Bool) : (whole L).length ≤ L.length := by have := whole_length (L.length / 8) L (by omega); omega
theorem fillb_stuff (L : List Bool) : whole L ++ fillb (val (rest L)) L.length = stuff L := by
  unfold fillb
  by_cases h : L.length % 8 = 0
  · rw [if_pos h, List.append_nil, stuff_even L h]
  · rw [if_neg h, stuff_odd L h]
theorem emit_put (L : List Bool) (v n : Nat) (hv : v < 2 ^ n) : whole L ++ emit (L.length % 8 + n) (val (rest L) * 2 ^ n + v) = whole (L ++ bitsOf v n) := by
  have h := emit_val (rest L ++ bitsOf v n)
  rw [val_append, bitsOf_length, val_bitsOf_lt v n hv, List.length_append, rest_length, bitsOf_length] at h
  rw [h, whole_rest L]
theorem part_put (L : List Bool) (v n : Nat) (hv : v < 2 ^ n) : (val (rest L) * 2 ^ n + v) % 2 ^ ((L.length % 8 + n) % 8) = val (rest (L ++ bitsOf v n)) := by
  rw [rest_rest]
  have hl : (rest L ++ bitsOf v n).length = L.length % 8 + n := by rw [List.length_append, rest_length, bitsOf_length]
  generalize hR : rest L ++ bitsOf v n = R at hl
  have hval : val R = val (rest L) * 2 ^ n + v := by rw [← hR, val_append, bitsOf_length, val_bitsOf_lt v n hv]
  rw [← hval]
  unfold rest
  rw [val_drop, hl]
  congr 2
  omega

theorem Put_any (B k : Nat) (D : List UInt8) (L : List Bool) (v z : Int) (w : World) (h : WB B k D L w) (hlen : D.length + L.length ≤ 800000) :
    Calls Try.prog 10 #[.pointer (some ⟨k, 0, none⟩), .int .i64 v, .int .i64 z] w fun e w' => e = .returned (.int .i64 (putErr v z)) ∧ WB B k D (L ++ putBits v z) w' ∧ Below B w w' ∧ Lib.OthersKept 5 (some k) w w' := by
  unfold putBits putErr
  split
  · rename_i hz
    exact (Put_arg k v z w hz).mono fun e w' ⟨he, hw⟩ => ⟨he, by rw [List.append_nil]; exact hw ▸ h, hw ▸ Below.refl _ _, hw ▸ Lib.OthersKept.refl _ _ _⟩
  rename_i hz
  obtain ⟨n, rfl⟩ := Int.eq_ofNat_of_zero_le (show 0 ≤ z by omega)
  split
  · rename_i hv
    exact (Put_large k v n w (by simpa using hv) (by omega)).mono fun e w' ⟨he, hw⟩ => ⟨he, by rw [List.append_nil]; exact hw ▸ h, hw ▸ Below.refl _ _, hw ▸ Lib.OthersKept.refl _ _ _⟩
  · rename_i hv
    simp only [Int.toNat_natCast] at hv ⊢
    obtain ⟨x, rfl⟩ := Int.eq_ofNat_of_zero_le (show 0 ≤ v by omega)
    have hx : x < 2 ^ n := by omega
    have hw := whole_le L
    refine (Put_yes B k (D ++ whole L) (val (rest L)) L.length x n w h hx (by omega) (by omega) (part_lt L) (by rw [List.length_append]; omega)).mono ?_
    rintro e w' ⟨he, h1, h2, h3⟩
    refine ⟨he, ?_, h2, h3⟩
    unfold WB
    rw [List.append_assoc, emit_put L x n hx, part_put L x n hx] at h1
    rw [List.length_append, bitsOf_length, Int.toNat_natCast]
    exact h1
theorem Mark_any (B k : Nat) (D : List UInt8) (L : List Bool) (z : Int) (w : World) (h : WB B k D L w) (hlen : D.length + L.length ≤ 800000) :
    Calls Try.prog 11 #[.pointer (some ⟨k, 0, none⟩), .int .i64 z] w fun e w' => e = .returned (.int .i64 (markErr z)) ∧ WB B k (markS D L z).1 (markS D L z).2 w' ∧ Below B w w' ∧ Lib.OthersKept 5 (some k) w w' := by
  unfold markErr markS
  split
  · rename_i hz
    exact (Mark_arg k z w hz).mono fun e w' ⟨he, hw⟩ => ⟨he, hw ▸ h, hw ▸ Below.refl _ _, hw ▸ Lib.OthersKept.refl _ _ _⟩
  · rename_i hz
    obtain ⟨c, rfl⟩ := Int.eq_ofNat_of_zero_le (show 0 ≤ z by omega)
    have hw := whole_le L
    refine (Mark_yes B k (D ++ whole L) (val (rest L)) L.length c w h (by omega) (by omega) (by omega) (part_lt L) (by rw [List.length_append]; omega)).mono ?_
    rintro e w' ⟨he, h1, h2, h3⟩
    refine ⟨he, ?_, h2, h3⟩
    unfold WB
    rw [List.append_assoc D, fillb_stuff] at h1
    simp only [Int.toNat_natCast]
    rw [whole_short [] (by simp), List.append_nil, show rest [] = [] from rfl]
    exact h1
theorem Bytes_bits (B k : Nat) (D : List UInt8) (L : List Bool) (w : World) (h : WB B k D L w) (hlen : D.length + L.length ≤ 800000) :
    Calls Try.prog 13 #[.pointer (some ⟨k, 0, none⟩)] w fun e w' => e = .returned (.string ⟨(D ++ stuff L).toArray⟩) ∧ Below w.heap.size w w' := by
  have hw := whole_le L
  have := Bytes_any B k (D ++ whole L) (val (rest L)) L.length w h (by omega) (part_lt L) (by rw [List.length_append]; omega)
  rw [List.append_assoc, fillb_stuff] at this
  exact this
theorem New_bits (w : World) : Calls Try.prog 9 #[] w fun e w' => e = .returned (.pointer (some ⟨w.heap.size, 0, none⟩)) ∧ WB w.heap.size w.heap.size [] [] w' ∧ Below w.heap.size w w' :=
  (NewWriter_any w).mono fun e w' ⟨he, h1, h2⟩ => ⟨he, by unfold WB; rw [whole_short [] (by simp)]; exact h1, h2⟩
theorem WB.lt {B k : Nat} {D : List UInt8} {L : List Bool} {w : World} (h : WB B k D L w) : k < w.heap.size := by
  obtain ⟨_, v, hv, _⟩ := h
  exact (Array.getElem?_eq_some_iff.1 hv).1
theorem WB.low {B k : Nat} {D : List UInt8} {L : List Bool} {w : World} (h : WB B k D L w) : B ≤ k := h.1
theorem WB.on {B k : Nat} {D : List UInt8} {L : List Bool} {w w' : World} (h : WB B k D L w) (hb : Below w.heap.size w w') : WB B k D L w' := by
  obtain ⟨h1, v, hv, ho⟩ := h
  exact ⟨h1, v, WrV.on (v := v) hv hb, ho.below hb⟩
theorem Len_bits (B k : Nat) (D : List UInt8) (L : List Bool) (w : World) (h : WB B k D L w) : Calls Try.prog 24 #[.pointer (some ⟨k, 0, none⟩)] w fun e w' => e = .returned (.int .i64 L.length) ∧ w = w' := by
  obtain ⟨_, v, hv, _⟩ := h
  exact Len_any k v _ _ w hv

theorem ex1 : ([] : List UInt8) ++ stuff ([] ++ putBits 1 1 ++ putBits 127 7) = [255, 0] := by
  have : ([] ++ putBits 1 1 ++ putBits 127 7) = List.replicate 8 true := by decide +kernel
  rw [this, List.nil_append, stuff_even _ (by simp), whole_long _ (by simp), whole_short _ (by simp)]
  decide +kernel
theorem ex2 : ([] : List UInt8) ++ stuff ([] ++ putBits 5 3) = [191] := by
  have : ([] ++ putBits 5 3) = [true, false, true] := by decide +kernel
  rw [this, List.nil_append]
  unfold stuff
  rw [whole_long _ (by simp), whole_short _ (by simp)]
  decide +kernel
theorem ex3 : putErr 1 1 = 0 := by decide +kernel
theorem ex4 : putErr 127 7 = 0 := by decide +kernel
theorem ex5 : putErr 5 3 = 0 := by decide +kernel
theorem ex6 : ([] : List UInt8).length + ([] ++ putBits 1 1 ++ putBits 127 7).length ≤ 800000 := by decide +kernel
theorem ex7 : ([] : List UInt8).length + ([] ++ putBits 5 3).length ≤ 800000 := by decide +kernel
theorem ex8 : ([] : List UInt8).length + ([] ++ putBits 1 1).length ≤ 800000 := by decide +kernel

set_option maxHeartbeats 1000000 in
theorem awake_any (w : World) : Calls Try.prog 8 #[] w fun e w' => e = .returned (.bool true) ∧ Below w.heap.size w w' := by
  go_enter Try.func8, Try.ntmps8
  go_wp2_with fail
  go_at_call 9
  refine (New_bits w).mono ?_
  rintro e w1 ⟨rfl, c1, b1⟩
  have h2 := Put_any w.heap.size w.heap.size [] [] 1 1 w1 c1 (by decide)
  rw [ex3] at h2
  have H2 := Lib.hid h2
  have B1 := Lib.hid b1
  clear h2 b1 c1
  go_wp2_with fail
  go_at_call 10
  refine H2.out.mono ?_
  rintro e w2 ⟨rfl, c2, b2, _⟩
  have h3 := Put_any w.heap.size w.heap.size [] ([] ++ putBits 1 1) 127 7 w2 c2 ex8
  rw [ex4] at h3
  have H3 := Lib.hid h3
  have B2 := Lib.hid (B1.out.trans b2)
  clear h3 b2 c2
  go_wp2_with fail
  go_at_call 10
  refine H3.out.mono ?_
  rintro e w3 ⟨rfl, c3, b3, _⟩
  have B3 := Lib.hid (B2.out.trans b3)
  have C3 := Lib.hid c3
  have hs3 := B3.out.size
  clear b3 c3
  go_wp2_with fail
  go_at_call 9
  refine (New_bits w3).mono ?_
  rintro e w4 ⟨rfl, c4, b4⟩
  have h5 := Put_any w3.heap.size w3.heap.size [] [] 5 3 w4 c4 (by decide)
  rw [ex5] at h5
  have H5 := Lib.hid h5
  have B34 := Lib.hid b4
  clear h5 b4 c4
  go_wp2_with fail
  go_at_call 10
  refine H5.out.mono ?_
  rintro e w5 ⟨rfl, c5, b5, _⟩
  have b35 := B34.out.trans b5
  have C5 := Lib.hid (C3.out.on b35)
  have V5 := Lib.hid c5
  have B5 := Lib.hid (B3.out.trans (b35.mono hs3))
  clear b35 b5 c5
  have h6 := Bytes_bits w.heap.size w.heap.size [] _ w5 C5.out ex6
  rw [ex1] at h6
  have H6 := Lib.hid h6
  clear h6
  generalize w3.heap.size = g at *
  go_wp2_with fail
  go_at_call 13
  refine H6.out.mono ?_
  rintro e w6 ⟨rfl, b6⟩
  have h7 := Bytes_bits g g [] _ w6 (V5.out.on b6) ex7
  rw [ex2] at h7
  have H7 := Lib.hid h7
  have B6 := Lib.hid (B5.out.trans (b6.mono B5.out.size))
  clear h7 b6
  go_wp2_with fail
  go_at_call 13
  refine H7.out.mono ?_
  rintro e w7 ⟨rfl, b7⟩
  have B7 := Lib.hid (B6.out.trans (b7.mono B6.out.size))
  clear b7
  go_wp2
  go_ret
  exact ⟨rfl, B7.out⟩
end Go.Proofs.Ytialkpfjllhfkaa
