/- SegBares answers true at every code: its walk. -/
import Derived.Test.YtfohgocdabgbgaaDoorSRest
namespace Go.Proofs.YtfohgocdabgbgaaDoor
open Go.RowKit

theorem app_ff (b : UInt8) : (⟨#[255]⟩ : ByteArray) ++ ⟨#[b]⟩ = ⟨#[255, b]⟩ := by
  apply ByteArray.ext
  simp
theorem toU_toNat (k : Nat) (h : k < 256) : k.toUInt8.toNat = k := by
  simp [Nat.toUInt8, UInt8.toNat, UInt8.ofNat, BitVec.toNat_ofNat]; omega
set_option maxHeartbeats 1000000 in
set_option maxRecDepth 100000 in
theorem SegBares_no (z : Int) (h : ¬ (208 ≤ z ∧ z ≤ 217)) (w : World) :
    Calls Tryd.prog 6 #[.int .i64 z] w fun e w' => e = .returned (.bool true) ∧ Below w.heap.size w w' := by
  have HB := Lib.hid (Bytes_bare z _ 1 (bare_no z h))
  have HN := Lib.hid Bytes_nil
  have HA := Lib.hid awake_any
  by_cases h1 : z < 208
  · have e1 : decide (z < 208) = true := decide_eq_true h1
    clear h h1
    go_enter Tryd.func6, Tryd.ntmps6
    go_wp2_with (first
      | (go_at_call 11; refine (HB.out w).mono ?_; rintro e w1 ⟨rfl, hb1⟩; have HB1 := Lib.hid hb1; clear hb1 HB)
      | (go_at_call 11; refine (HN.out w1).mono ?_; rintro e w2 ⟨rfl, hb2⟩; have HB2 := Lib.hid (HB1.out.trans (hb2.mono HB1.out.size)); clear hb2)
      | (go_at_call 10; refine (HA.out w2).mono ?_; rintro e w3 ⟨rfl, hb3⟩; have HB3 := Lib.hid (HB2.out.trans (hb3.mono HB2.out.size)); clear hb3))
    go_ret
    exact ⟨by simp, HB3.out⟩
  · have e1 : decide (z < 208) = false := decide_eq_false h1
    have e2 : decide (217 < z) = true := decide_eq_true (by omega)
    clear h h1
    go_enter Tryd.func6, Tryd.ntmps6
    go_wp2_with (first
      | (go_at_call 11; refine (HB.out w).mono ?_; rintro e w1 ⟨rfl, hb1⟩; have HB1 := Lib.hid hb1; clear hb1 HB)
      | (go_at_call 11; refine (HN.out w1).mono ?_; rintro e w2 ⟨rfl, hb2⟩; have HB2 := Lib.hid (HB1.out.trans (hb2.mono HB1.out.size)); clear hb2)
      | (go_at_call 10; refine (HA.out w2).mono ?_; rintro e w3 ⟨rfl, hb3⟩; have HB3 := Lib.hid (HB2.out.trans (hb3.mono HB2.out.size)); clear hb3))
    go_ret
    exact ⟨by simp, HB3.out⟩
set_option maxHeartbeats 1000000 in
set_option maxRecDepth 100000 in
theorem SegBares_yes (n : Nat) (h1 : 208 ≤ n) (h2 : n ≤ 217) (w : World) :
    Calls Tryd.prog 6 #[.int .i64 n] w fun e w' => e = .returned (.bool true) ∧ Below w.heap.size w w' := by
  have HB := Lib.hid (Bytes_bare n _ 0 (bare_yes n h1 h2))
  have HN := Lib.hid Bytes_nil
  have HA := Lib.hid awake_any
  have HCV := Lib.hid fun W => conv_one W (n : Int) n.toUInt8 (by rw [toU_toNat n (by omega)])
  have HFF := Lib.hid (app_ff n.toUInt8)
  have e1 : decide ((n : Int) < 208) = false := decide_eq_false (by omega)
  have e2 : decide ((217 : Int) < (n : Int)) = false := decide_eq_false (by omega)
  have e3 : decide (n < 208) = false := decide_eq_false (by omega)
  have e4 : decide (217 < n) = false := decide_eq_false (by omega)
  generalize n.toUInt8 = b at *
  go_enter Tryd.func6, Tryd.ntmps6
  go_wp2_with (first
    | (go_at_call 11; refine (HB.out w).mono ?_; rintro e w1 ⟨rfl, hb1⟩; have HB1 := Lib.hid hb1; clear hb1 HB)
    | (go_at_call 11; refine (HN.out w1).mono ?_; rintro e w2 ⟨rfl, hb2⟩; have HB2 := Lib.hid (HB1.out.trans (hb2.mono HB1.out.size)); clear hb2)
    | (go_at_call 10; refine (HA.out w2).mono ?_; rintro e w3 ⟨rfl, hb3⟩; have HB3 := Lib.hid (HB2.out.trans (hb3.mono HB2.out.size)); have hcv := HCV.out w3; have hff := HFF.out; clear hb3))
  go_ret
  exact ⟨rfl, HB3.out.alloc HB3.out.size _⟩
theorem SegBares_any (z : Int) (w : World) : Calls Tryd.prog 6 #[.int .i64 z] w fun e w' => e = .returned (.bool true) ∧ Below w.heap.size w w' := by
  by_cases h : 208 ≤ z ∧ z ≤ 217
  · obtain ⟨n, rfl⟩ := Int.eq_ofNat_of_zero_le (show 0 ≤ z by omega)
    exact SegBares_yes n (by omega) (by omega) w
  · exact SegBares_no z h w
end Go.Proofs.YtfohgocdabgbgaaDoor
