/- The program's least. -/
import Derived.Test.YtlfnjdgfllhepaaBRow
namespace Go.Proofs.Ytlfnjdgfllhepaa
open Go.RowKit

/-- A place, or -1. -/
def oi : Option Nat → Int
  | none => -1
  | some a => a
theorem oi_some (a : Nat) : oi (some a) = a := rfl

set_option maxHeartbeats 2000000 in
set_option maxRecDepth 100000 in
theorem least_any (k : Nat) (G : Nat → Int) (W : Nat → Nat) (hG : ∀ i, i < 257 → G i = W i) (hb : ∀ i, i < 257 → W i < 1000000000000000) (z : Int) (b : Nat) (hz : ∀ i : Nat, i < 257 → ((i : Int) = z ↔ i = b)) (R : Option Nat) (hR : R = lst W b 257)
    (w : World) (hw : RowN 61 771 k G w) :
    Calls Try.prog 27 #[.pointer (some ⟨k, 0, none⟩), .int .i64 z] w fun e w' => e = .returned (.int .i64 (oi R)) ∧ Below w.heap.size w w' := by
  have HG := Lib.hid hG
  have HB := Lib.hid hb
  have HZ := Lib.hid hz
  have HR := Lib.hid hR
  have HW0 := Lib.hid hw
  clear hG hb hz hR hw
  go_enter Try.func27, Try.ntmps27
  go_wp2
  go_loopw [5, 7] (fun f i wr => ∃ n : Nat, n ≤ 257 ∧ i = .int .i64 n ∧ f = .int .i64 (oi (lst W b n)) ∧ Below w.heap.size w wr) (fun _ i _ => 257 - (intOf i).toNat)
  case atStart => exact ⟨0, by omega, rfl, rfl, Below.refl _ _⟩
  case round =>
    obtain ⟨n, hn, rfl, rfl, hlow⟩ := hrel
    have HW := Lib.hid hlow
    have HK := Lib.hid (HW0.out.on hlow)
    clear hlow
    by_cases hlt : n < 257
    · have x0 := HK.out.cell (i := n) (by omega)
      rw [HG.out n hlt] at x0
      have hb1 := HB.out n hlt
      by_cases h0 : W n = 0
      · have HS := Lib.hid (lst_skip (W := W) (b := b) (k := n) (.inl h0))
        rw [h0] at x0
        clear h0
        rw [← HS.out]
        obtain ⟨B, hB⟩ : ∃ B, B = oi (lst W b (n + 1)) := ⟨_, rfl⟩
        rw [← hB]
        have HBB := Lib.hid hB
        clear hB
        go_wp2
        go_roundw
        case rel => exact ⟨n + 1, by omega, by go_num, by rw [HBB.out], HW.out⟩
        case measure => simp [intOf]; omega
      · by_cases hnb : n = b
        · have HS := Lib.hid (lst_skip (W := W) (b := b) (k := n) (.inr hnb))
          have e1 : ((W n : Int) == 0) = false := by rw [beq_eq_false_iff_ne]; omega
          have e2 : ((n : Int) == z) = true := by rw [beq_iff_eq]; exact (HZ.out n hlt).2 hnb
          clear h0 hnb
          rw [← HS.out]
          obtain ⟨B, hB⟩ : ∃ B, B = oi (lst W b (n + 1)) := ⟨_, rfl⟩
          rw [← hB]
          have HBB := Lib.hid hB
          clear hB
          go_wp2
          go_roundw
          case rel => exact ⟨n + 1, by omega, by go_num, by rw [HBB.out], HW.out⟩
          case measure => simp [intOf]; omega
        · have hno : ¬ (W n = 0 ∨ n = b) := fun h => h.elim h0 hnb
          have e1 : ((W n : Int) == 0) = false := by rw [beq_eq_false_iff_ne]; omega
          have e2 : ((n : Int) == z) = false := by rw [beq_eq_false_iff_ne]; exact fun h => hnb ((HZ.out n hlt).1 h)
          clear h0 hnb
          cases hA : lst W b n with
          | none =>
            have HS := Lib.hid (lst_first hno hA)
            clear hA hno
            rw [show oi none = -1 from rfl]
            go_wp2
            go_quiet (fail)
            go_wp2
            go_roundw
            case rel => exact ⟨n + 1, by omega, by go_num, by rw [HS.out, oi_some], below_drawn HW.out _⟩
            case measure => simp [intOf]; omega
          | some f =>
            have hL := lst_some hA
            have hf : f < 257 := by have := hL.1; omega
            have x1 := HK.out.cell (i := f) (by omega)
            rw [HG.out f hf] at x1
            have e3 : ((f : Int) == -1) = false := by rw [beq_eq_false_iff_ne]; omega
            clear hL
            rw [show oi (some f) = (f : Int) from rfl]
            by_cases hle : W n ≤ W f
            · have HS := Lib.hid (lst_take hno hA hle)
              have e4 : (W n : Int) ≤ (W f : Int) := by omega
              clear hA hno hle
              go_wp2
              go_quiet (fail)
              go_wp2
              go_roundw
              case rel => exact ⟨n + 1, by omega, by go_num, by rw [HS.out, oi_some], below_drawn HW.out _⟩
              case measure => simp [intOf]; omega
            · have HS := Lib.hid (lst_keep hno hA hle)
              have e4 : ¬ (W n : Int) ≤ (W f : Int) := by omega
              clear hA hno hle
              go_wp2
              go_quiet (fail)
              go_wp2
              go_roundw
              case rel => exact ⟨n + 1, by omega, by go_num, by rw [HS.out, oi_some], below_drawn HW.out _⟩
              case measure => simp [intOf]; omega
    · obtain rfl : n = 257 := by omega
      rw [← HR.out]
      clear hlt
      go_wp2
      go_ret
      exact ⟨rfl, HW.out⟩
end Go.Proofs.Ytlfnjdgfllhepaa
