/- A segment of any bytes: read. -/
import Derived.Test.YtfohgocdabgbgaaDoorSParse
import Derived.Test.YtfohgocdabgbgaaDoorSRd2
namespace Go.Proofs.YtfohgocdabgbgaaDoor
open Go.RowKit

def plainV (z : Int) (s : ByteArray) : Value := .iface 98 (.agg #[.int .i64 z, .string s])
theorem extract_all (s : ByteArray) : s.extract 0 s.size = s := by
  apply ByteArray.ext
  simp
set_option maxHeartbeats 1000000 in
theorem segment_plain (z : Int) (hz : (224 ≤ z ∧ z ≤ 239) ∨ z = 254) (B k c : Nat) (s : ByteArray) (hs : s.size ≤ maxLen) (w : World) (h : Rdd B k c s (0, 0) w) :
    Calls Tryd.prog 22 #[.pointer (some ⟨k, 0, none⟩), .int .i64 z] w fun e w' => e = .returned (plainV z s) ∧ Rdd B k c s (s.size, 0) w' ∧ Below B w w' := by
  have HN := Lib.hid (Rest_any c s 0 w h.cur hs (Nat.zero_le _))
  rw [extract_all] at HN
  have H := Lib.hid h
  have x1 := h.cc
  have e1 : (z == 196) = false := by rw [beq_eq_false_iff_ne]; omega
  have e2 : (z == 218) = false := by rw [beq_eq_false_iff_ne]; omega
  have e3 : (z == 219) = false := by rw [beq_eq_false_iff_ne]; omega
  have e4 : (z == 221) = false := by rw [beq_eq_false_iff_ne]; omega
  have HW := Lib.hid (within_any z 192 194 false (decide_eq_false (by omega)).symm)
  unfold plainV
  clear hz h
  go_enter Tryd.func22, Tryd.ntmps22
  go_wp2_with (first
    | (go_at_call 41; refine (HW.out w).mono ?_; rintro e w' ⟨rfl, rfl⟩; clear HW)
    | (go_at_call 48; refine HN.out.mono ?_; rintro e w1 ⟨rfl, hc, hb⟩; have H1 := Lib.hid (H.out.moved hc hb (Nat.le_refl _)); have HB1 := Lib.hid (H.out.low hb); clear hc hb HN))
  go_ret
  exact ⟨rfl, H1.out, HB1.out⟩
theorem Parse_plain (z : Int) (hz : (224 ≤ z ∧ z ≤ 239) ∨ z = 254) (s : ByteArray) (hs : s.size ≤ 65533) (w : World) :
    Calls Tryd.prog 9 #[.int .i64 z, .string s] w fun e w' => e = .returned (.tuple #[plainV z s, .int .i64 0]) ∧ Below w.heap.size w w' := by
  have hr : refu z = 0 := by
    unfold refu
    rw [if_neg (by omega), if_neg (by omega), if_pos (by omega)]
  refine (Parse_read (fun _ V _ => V = plainV z s) (fun _ _ _ _ _ _ _ h _ _ => h) z s hr hs (s.size, 0)
    (fun B k c x hx => (segment_plain z hz B k c s (by unfold maxLen; omega) x hx).mono fun e w' ⟨h1, h2, h3⟩ => ⟨_, h1, rfl, h2, h3⟩) 0 ?_ w).mono ?_
  · show 0 = (rneed (decide (s.size - s.size = 0)) 4 (s.size, 0)).2
    rw [Nat.sub_self]
    rfl
  · rintro e w' ⟨⟨_, V, rfl, rfl⟩ | ⟨h, _⟩, hb⟩
    · exact ⟨rfl, hb⟩
    · exact absurd rfl h
end Go.Proofs.YtfohgocdabgbgaaDoor
