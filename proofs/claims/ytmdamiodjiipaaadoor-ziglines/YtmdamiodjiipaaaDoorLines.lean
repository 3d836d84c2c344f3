/- A walk: a block turned over its diagonal changes places within a line alone. -/
import Derived.Test.YtmdamiodjiipaaaDoorEq
namespace Go.Proofs.YtmdamiodjiipaaaDoor
open Go.RowKit

/-- Where a line begins, how many places it has. -/
def ls : List Nat := [0, 1, 3, 6, 10, 15, 21, 28, 36, 43, 49, 54, 58, 61, 63, 64]
def lb (s : Nat) : Nat := ls.getD s 0
theorem lb_next : ∀ s, s < 15 → lb (s + 1) = lb s + min (s + 1) (15 - s) := by decide +kernel
theorem lb_in : ∀ s, s < 15 → lb s + min (s + 1) (15 - s) ≤ 64 := by decide +kernel
theorem lines : ∀ s, s < 15 → ∀ i, i < min (s + 1) (15 - s) → sw (zz (lb s + i)) = zz (lb s + min (s + 1) (15 - s) - 1 - i) := by decide +kernel

/-- What the loops read. -/
structure Two (g1 g2 : Nat) (f : Nat → Int) (w wr : World) : Prop where
  one : Row 23 .i16 g1 (fun k => f (sw (zz k))) wr
  two : Row 23 .i16 g2 (fun k => f (zz k)) wr
  tab : Tab wr
  low : Below w.heap.size w wr
theorem Two.drewN {g1 g2 : Nat} {f : Nat → Int} {w wr : World} (h : Two g1 g2 f w wr) (n : Nat) : Two g1 g2 f w (wr.drewN n) := ⟨h.one, h.two, h.tab, ⟨h.low.os, h.low.tape, h.low.output, h.low.size, h.low.block⟩⟩

set_option maxHeartbeats 4000000 in
theorem ZigLines_any (f : Nat → Int) (w : World) (hT : Tab w) : Calls Tryd.prog 4 #[.agg (blk .i16 f)] w fun e w' => e = .returned (.bool true) ∧ Below w.heap.size w w' := by
  have hR : Row 23 .i16 w.heap.size f (w.alloc (.cells (blk .i16 f) 23)) := Row.new rfl
  have hB : Below w.heap.size w (w.alloc (.cells (blk .i16 f) 23)) := (Below.refl _ _).alloc (Nat.le_refl _) _
  have HR := Lib.hid hR
  have HB := Lib.hid hB
  have HT := Lib.hid (hT.on hB)
  clear hT hR hB
  go_enter Tryd.func4, Tryd.ntmps4
  go_wp2_with (refine wpList_load_row rfl 23 _ rfl w.heap.size rfl 23 _ (0, 0) _ HR.out Tryd.underlying23 rfl (sizeB23 _) ?_)
  go_at_call 12
  generalize w.alloc (.cells (blk .i16 f) 23) = w0 at *
  refine (Swap16 f w0).mono ?_
  rintro e w1 ⟨rfl, b1⟩
  have HR1 := Lib.hid (HR.out.on b1)
  have HT1 := Lib.hid (HT.out.on b1)
  have HB1 := Lib.hid (HB.out.trans (b1.mono HB.out.size))
  clear b1
  go_wp2_with fail
  go_at_call 11
  refine (Zig16 _ w1 HT1.out).mono ?_
  rintro e w2 ⟨rfl, b2⟩
  have HR2 := Lib.hid (HR1.out.on b2)
  have HT2 := Lib.hid (HT1.out.on b2)
  have HB2 := Lib.hid (HB1.out.trans (b2.mono HB1.out.size))
  clear b2
  go_wp2_with (first
    | (refine wpList_store_fresh .i16 (fun k => f (sw (zz k))) _ rfl 23 _ _ rfl rfl rfl (sizeB23 _) (by kernel_rfl) ?_; intro w3 r3 b3; have HT3 := Lib.hid (HT2.out.on b3); have HB3 := Lib.hid (HB2.out.trans (b3.mono HB2.out.size)); have HR3 := Lib.hid (HR2.out.on b3); have HS3 := Lib.hid r3; clear b3 r3)
    | refine wpList_load_row rfl 23 _ rfl w.heap.size rfl 23 _ (0, 0) _ HR3.out Tryd.underlying23 rfl (sizeB23 _) ?_)
  go_at_call 11
  refine (Zig16 f w3 HT3.out).mono ?_
  rintro e w4 ⟨rfl, b4⟩
  have HS4 := Lib.hid (HS3.out.on b4)
  have HT4 := Lib.hid (HT3.out.on b4)
  have HB4 := Lib.hid (HB3.out.trans (b4.mono HB3.out.size))
  clear b4
  go_wp2_with (refine wpList_store_fresh .i16 (fun k => f (zz k)) _ rfl 23 _ _ rfl rfl rfl (sizeB23 _) (by kernel_rfl) ?_; intro w5 r5 b5; have HT5 := Lib.hid (HT4.out.on b5); have HB5 := Lib.hid (HB4.out.trans (b5.mono HB4.out.size)); have HS5 := Lib.hid (HS4.out.on b5); have HR5 := Lib.hid r5; clear b5 r5)
  have H5 : Hid (Two w2.heap.size w4.heap.size f w w5) := ⟨HS5.out, HR5.out, HT5.out, HB5.out⟩
  clear HS5 HR5 HT5 HB5 HR HB HT HR1 HT1 HB1 HR2 HT2 HB2 HT3 HB3 HR3 HS3 HS4 HT4 HB4
  generalize w2.heap.size = g1 at *
  generalize w4.heap.size = g2 at *
  go_loopw [5, 6] (fun k sum wr => ∃ s : Nat, sum = .int .i64 s ∧ s ≤ 15 ∧ k = .int .i64 (lb s : Nat) ∧ Two g1 g2 f w wr) (fun _ i _ => 15 - (intOf i).toNat)
  case atStart => exact ⟨0, rfl, Nat.zero_le _, rfl, H5.out⟩
  case round =>
    obtain ⟨s, rfl, hs, rfl, h2⟩ := hrel
    have H2 := Lib.hid h2
    clear h2
    by_cases hlt : s < 15
    · have HL := Lib.hid (lines s hlt)
      have HN := Lib.hid (lb_next s hlt)
      have hI := lb_in s hlt
      have HM := Lib.hid (show ((min (s + 1) (15 - s) : Nat) : Int) = min ((s : Int) + 1) (15 - (s : Int)) by omega)
      generalize min (s + 1) (15 - s) = m at *
      generalize lb s = b at *
      go_upto_region 7 with fail
      go_cut [7] from 14 to 44 (fun v7 wx => v7 = .int .i64 (m : Nat) ∧ wx = wr)
      case first =>
        go_wp2_with fail
        all_goals
          go_meet
          exact ⟨by rw [HM.out]; congr 1; omega, rfl⟩
      case rest =>
        obtain ⟨rfl, hwc⟩ := hcut
        subst hwc
        go_wp2
        go_loopw [8] (fun i wr => ∃ j : Nat, i = .int .i64 j ∧ j ≤ m ∧ Two g1 g2 f w wr) (fun i _ => m - (intOf i).toNat)
        case atStart => exact ⟨0, rfl, Nat.zero_le _, H2.out⟩
        case round =>
          obtain ⟨j, rfl, hj, h2⟩ := hrel
          have H2 := Lib.hid h2
          clear h2
          by_cases hl2 : j < m
          · have x1 := H2.out.one.cell (show b + j < 64 by omega)
            have x2 := H2.out.two.cell (show b + m - 1 - j < 64 by omega)
            rw [HL.out j hl2] at x1
            generalize f (zz (b + m - 1 - j)) = y at x1 x2
            go_wp2
            go_quiet (fail)
            go_wp2
            go_roundw
            case rel => exact ⟨j + 1, by go_num, by omega, H2.out.drewN _⟩
            case measure => simp [intOf]; omega
          · obtain rfl : j = m := by omega
            go_wp2
            go_roundw
            case rel => exact ⟨s + 1, by go_num, by omega, by rw [HN.out]; go_num, H2.out⟩
            case measure => simp [intOf]; omega
    · obtain rfl : s = 15 := by omega
      go_wp2_with (go_at_call 9; refine (awake_any wr H2.out.tab).mono ?_; rintro e w' ⟨rfl, rfl⟩)
      go_ret
      exact ⟨rfl, H2.out.low⟩
end Go.Proofs.YtmdamiodjiipaaaDoor
