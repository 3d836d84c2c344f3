/- Walks: a reader by the bits that are left; Next. -/
import Derived.Test.YtmoennlpendknaaHCode
namespace Go.Proofs.Ytmoennlpendknaa
open Go.RowKit

/-- A reader of the text with these bits left stands in this block. -/
def RdS (k : Nat) (t : ByteArray) (S : List Bool) (w : World) : Prop := ∃ a H, Rd k t a H w ∧ a ≤ t.size ∧ H.length < 8 ∧ H ++ stream t.data.toList a = S
section
variable {k : Nat} {t : ByteArray} {S : List Bool} {w w' : World}
theorem RdS.lt (h : RdS k t S w) : k < w.heap.size := by obtain ⟨a, H, h, _⟩ := h; exact h.lt
theorem RdS.on (h : RdS k t S w) (hb : Below w.heap.size w w') : RdS k t S w' := by obtain ⟨a, H, h, r⟩ := h; exact ⟨a, H, h.on hb, r⟩
theorem RdS.tbl {q : Nat} {c : Nat → Nat} {s : ByteArray} (h : RdS k t S w) (hT : Tbl q c s w) (hb : But k w w') : Tbl q c s w' := by obtain ⟨a, H, h, _⟩ := h; exact hT.but h hb
theorem RdS.cells (h : RdS k t S w) : ∃ cs fz, w.heap[k]? = some (.cells cs 73 fz) := by obtain ⟨a, H, h, _⟩ := h; exact ⟨_, _, h⟩
end
theorem NewReader_bits (s : ByteArray) (hs : s.size ≤ maxLen) (w : World) :
    Calls Try.prog 14 #[.string s, .int .i64 0] w fun e w' => e = .returned (.pointer (some ⟨w.heap.size, 0, none⟩)) ∧ RdS w.heap.size s (stream s.data.toList 0) w' ∧ Below w.heap.size w w' :=
  (NewReader_any s 0 hs w).mono fun e w' ⟨he, h1, h2⟩ => ⟨he, ⟨0, [], by
    have e : start s 0 = 0 := by unfold start; simp
    rw [e] at h1
    exact h1, Nat.zero_le _, by simp, rfl⟩, h2⟩
theorem Bit_nil (k : Nat) (t : ByteArray) (w : World) (h : RdS k t [] w) (ht : t.size ≤ maxLen) :
    Calls Try.prog 34 #[.pointer (some ⟨k, 0, none⟩), .int .i64 1] w fun e w' => e = .returned (.tuple #[.int .i64 0, .int .i64 2]) ∧ RdS k t [] w' ∧ But k w w' := by
  obtain ⟨a, H, h1, h2, h3, h4⟩ := h
  have := Bits_yes k t a H 1 w h1 ht h2 h3 (by omega)
  rw [rbits_nil _ _ _ h4] at this
  exact this.mono fun e w' ⟨he, hr, hb⟩ => ⟨he, ⟨a, H, hr, h2, h3, h4⟩, hb⟩
theorem Bit_cons (k : Nat) (t : ByteArray) (b : Bool) (S : List Bool) (w : World) (h : RdS k t (b :: S) w) (ht : t.size ≤ maxLen) :
    Calls Try.prog 34 #[.pointer (some ⟨k, 0, none⟩), .int .i64 1] w fun e w' => e = .returned (.tuple #[.int .i64 (b.toNat : Nat), .int .i64 0]) ∧ RdS k t S w' ∧ But k w w' := by
  obtain ⟨a, H, h1, h2, h3, h4⟩ := h
  have := Bits_yes k t a H 1 w h1 ht h2 h3 (by omega)
  obtain ⟨r1, r2, r3⟩ := rbits_cons _ _ _ _ _ h4
  have r4 := rbits_bounds t.data.toList (1 : Nat) a H (by simpa using h2) h3
  rw [r1, r2] at this
  exact this.mono fun e w' ⟨he, hr, hb⟩ => ⟨he, ⟨_, _, hr, by simpa using r4.1, r4.2, r3⟩, hb⟩

set_option maxHeartbeats 400000 in
theorem Next_nil (v : Value) (w : World) : Calls Try.prog 16 #[.pointer none, v] w fun e w' => e = .returned (.tuple #[.int .i64 0, .int .i64 1]) ∧ w = w' := by
  go_enter Try.func16, Try.ntmps16
  go_wp2
  go_ret2
  exact ⟨rfl, rfl⟩
set_option maxHeartbeats 400000 in
theorem Next_none (k : Nat) (w : World) : Calls Try.prog 16 #[.pointer (some ⟨k, 0, none⟩), .pointer none] w fun e w' => e = .returned (.tuple #[.int .i64 0, .int .i64 1]) ∧ w = w' := by
  go_enter Try.func16, Try.ntmps16
  go_wp2
  go_ret2
  exact ⟨rfl, rfl⟩
theorem getD_at (s : ByteArray) (i : Nat) (h : i < s.size) : s.data.toList.getD i 0 = s[i] := by
  rw [List.getD_eq_getElem?_getD, bytes_at s i h]; rfl
theorem dec_zero (c : Nat → Nat) (y : List UInt8) (n v : Nat) (S : List Bool) : dec c y (16 - 16) n v S = (0, 0, 9, S) := rfl

set_option maxHeartbeats 2000000 in
theorem Next_any (k r : Nat) (c : Nat → Nat) (hc : ∀ i, c i < 256) (s : ByteArray) (hR : Right c s.data.toList) (t : ByteArray) (ht : t.size ≤ maxLen) (S : List Bool) (w : World) (hT : Tbl k c s w) (hr : RdS r t S w) :
    Calls Try.prog 16 #[.pointer (some ⟨k, 0, none⟩), .pointer (some ⟨r, 0, none⟩)] w fun e w' => e = .returned (.tuple #[.int .i64 (decode c s.data.toList S).1, .int .i64 (decode c s.data.toList S).2.2.1]) ∧ RdS r t (decode c s.data.toList S).2.2.2 w' ∧ But r w w' := by
  obtain ⟨R, hRR⟩ : ∃ R, R = decode c s.data.toList S := ⟨_, rfl⟩
  rw [← hRR]
  have HR := Lib.hid hRR
  have HT := Lib.hid hT
  have HS := Lib.hid hr
  have HTT := Lib.hid ht
  have HCC := Lib.hid hc
  have hsum : off c 16 = s.size := by rw [hR.sum]; simp
  have HSUM := Lib.hid hsum
  have hfew : s.size ≤ 256 := by have := hR.few; simpa using this
  clear hRR hT hr ht hc hR hsum
  go_enter Try.func16, Try.ntmps16
  go_wp2
  go_loopw [6, 7, 8, 19] (fun x f o n wr => ∃ (j v : Nat) (U : List Bool), j ≤ 16 ∧ n = .int .i64 j ∧ x = .int .i64 v ∧ f = .int .i64 (fst c j : Nat) ∧ o = .int .i64 (off c j : Nat) ∧ fst c j ≤ 2 * v ∧ v < 2 ^ j ∧ dec c s.data.toList (16 - j) j v U = decode c s.data.toList S ∧ RdS r t U wr ∧ But r w wr) (fun _ _ _ n _ => 16 - (intOf n).toNat)
  case atStart => exact ⟨0, 0, S, by omega, rfl, rfl, rfl, rfl, Nat.zero_le _, by decide, rfl, HS.out, But.refl _ _⟩
  case round =>
    obtain ⟨j, v, U, hj, rfl, rfl, rfl, rfl, hge, hv, hd, hU, hB⟩ := hrel
    rw [← HR.out] at hd
    have HU := Lib.hid hU
    have HB := Lib.hid hB
    have HT2 := Lib.hid (HS.out.tbl HT.out hB)
    have hp : 2 ^ j ≤ 2 ^ 16 := Nat.pow_le_pow_right (by omega) hj
    have hv2 : v < 65536 := by omega
    have HV := Lib.hid hv
    clear hU hB hp hv
    by_cases hlt : j < 16
    · have hcj := HCC.out j
      have hfj := fst_16 c HCC.out j hj
      have ho1 : off c (j + 1) ≤ s.size := by rw [← HSUM.out]; exact off_le c (by omega)
      rw [show off c (j + 1) = off c j + c j from rfl] at ho1
      have HO : Hid (off c (j + 1) = off c j + c j) := rfl
      have HF : Hid (fst c (j + 1) = 2 * (fst c j + c j)) := rfl
      rw [show 16 - j = (15 - j) + 1 by omega] at hd
      cases U with
      | nil =>
        have HR2 : Hid (R = (0, 0, 2, [])) := hd.symm
        have HBN := Lib.hid (Bit_nil r t wr HU.out HTT.out)
        clear hd
        go_wp2_with fail
        go_at_call 34
        refine HBN.out.mono ?_
        rintro e w1 ⟨rfl, c1, b1⟩
        have HC1 := Lib.hid c1
        have HB1 := Lib.hid (HB.out.trans b1)
        clear c1 b1
        go_wp2
        go_ret2
        exact ⟨by rw [HR2.out]; rfl, by rw [HR2.out]; exact HC1.out, HB1.out⟩
      | cons b U =>
        unfold dec at hd
        have HBN := Lib.hid (Bit_cons r t b U wr HU.out HTT.out)
        have hb1 : b.toNat ≤ 1 := by cases b <;> simp
        have hV : (2 : Int) * (v : Int) + (b.toNat : Int) = ((2 * v + b.toNat : Nat) : Int) := by omega
        have hVF : fst c j ≤ 2 * v + b.toNat := by omega
        have hVl : 2 * v + b.toNat < 131072 := by omega
        have HVP : Hid (2 * v + b.toNat < 2 ^ (j + 1)) := by have := HV.out; unfold Hid; rw [Nat.pow_succ]; omega
        generalize 2 * v + b.toNat = V at *
        generalize b.toNat = B at *
        by_cases hq : V < fst c j + c j
        · rw [if_pos hq] at hd
          have hidx : off c j + (V - fst c j) < s.size := by omega
          rw [getD_at s _ hidx] at hd
          have HR2 : Hid (R = (s[off c j + (V - fst c j)].toNat, j + 1, 0, U)) := hd.symm
          obtain ⟨i, hi⟩ : ∃ i, i = off c j + (V - fst c j) := ⟨_, rfl⟩
          have hI : (off c j : Int) + (V : Int) - (fst c j : Int) = (i : Int) := by omega
          have his : i < s.size := by omega
          have hsb : s[i].toNat < 256 := s[i].toNat_lt
          have hsi : s[off c j + (V - fst c j)].toNat = s[i].toNat := by congr 1; simp only [hi]
          rw [hsi] at HR2
          have hlt2 : (V : Int) - (fst c j : Int) < (c j : Int) := by omega
          clear hd hidx hi hsi hq
          generalize fst c j = F at *
          generalize off c j = O at *
          generalize hcd : c j = d at *
          go_wp2_with fail
          go_at_call 34
          refine HBN.out.mono ?_
          rintro e w1 ⟨rfl, c1, b1⟩
          have HC1 := Lib.hid c1
          have HB1 := Lib.hid (HB.out.trans b1)
          have ht1 := HU.out.tbl HT2.out b1
          have x0 := ht1.count (i := j) hlt
          rw [hcd] at x0
          have x1 := ht1.text
          clear c1 b1 ht1 hcd
          go_wp2
          go_ret2
          exact ⟨by rw [HR2.out]; rfl, by rw [HR2.out]; exact HC1.out, HB1.out⟩
        · rw [if_neg hq] at hd
          have HD : Hid (dec c s.data.toList (16 - (j + 1)) (j + 1) V U = R) := by unfold Hid; rw [← hd]; congr 1; omega
          have hlt2 : ¬ (V : Int) - (fst c j : Int) < (c j : Int) := by omega
          have HG : Hid (fst c (j + 1) ≤ 2 * V) := by unfold Hid; rw [HF.out]; omega
          have hob : off c j ≤ 4080 := by have := off_bound c HCC.out j; omega
          clear hd hq
          generalize hFF : fst c j = F at *
          generalize hOO : off c j = O at *
          generalize hcd : c j = d at *
          clear hFF hOO
          go_wp2_with fail
          go_at_call 34
          refine HBN.out.mono ?_
          rintro e w1 ⟨rfl, c1, b1⟩
          have HC1 := Lib.hid c1
          have HB1 := Lib.hid (HB.out.trans b1)
          have ht1 := HU.out.tbl HT2.out b1
          have x0 := ht1.count (i := j) hlt
          rw [hcd] at x0
          clear c1 b1 ht1 hcd
          go_wp2_with (go_at_call 31; refine (after_any F d (by omega) (by omega) _).mono ?_; rintro e w' ⟨rfl, rfl⟩)
          go_roundw
          case rel => exact ⟨j + 1, V, U, by omega, by go_num, by go_num, by rw [HF.out]; go_num, by rw [HO.out]; go_num, HG.out, HVP.out, by rw [HD.out, HR.out], HC1.out, HB1.out⟩
          case measure => simp [intOf]; omega
    · obtain rfl : j = 16 := by omega
      rw [dec_zero] at hd
      have HR2 : Hid (R = (0, 0, 9, U)) := hd.symm
      clear hd
      go_wp2
      go_ret2
      exact ⟨by rw [HR2.out]; rfl, by rw [HR2.out]; exact HU.out, HB.out⟩
end Go.Proofs.Ytmoennlpendknaa
