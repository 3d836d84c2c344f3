/- Walks over blocks of int16: Back, Swap. -/
import Derived.Test.YtmdamiodjiipaaaDoorWalk
namespace Go.Proofs.YtmdamiodjiipaaaDoor
open Go.RowKit

theorem St.drew {t : TypeId} {K : IntKind} {f c : Nat → Int} {w wr : World} (h : St t K f c w wr) : St t K f c w wr.drew := ⟨h.arg, h.res, h.out, h.low.drew⟩

set_option maxHeartbeats 1000000 in
theorem Back16 (f : Nat → Int) (w : World) (hT : Tab w) : Calls Tryd.prog 10 #[.agg (blk .i16 f)] w fun e w' => e = .returned (.agg (blk .i16 fun i => f (sp i))) ∧ Below w.heap.size w w' := by
  have HT := Lib.hid hT
  clear hT
  go_enter Tryd.func10, Tryd.ntmps10
  go_wp2
  go_loopw [5] (fun i wr => ∃ k : Nat, i = .int .i64 k ∧ k ≤ 64 ∧ St 23 .i16 f (mix sp (fun i => f (sp i)) k) w wr) (fun i _ => 64 - (intOf i).toNat)
  case atStart => exact ⟨0, rfl, Nat.zero_le _, St.start (by kernel_rfl) (by kernel_rfl) (mix_zero _ _ _)⟩
  case round =>
    obtain ⟨k, rfl, hk, hS⟩ := hrel
    have HS := Lib.hid hS
    clear hS
    by_cases hlt : k < 64
    · have x0 := HT.out.over HS.out.low hlt
      have hp := zz_lt k hlt
      have x1 := HS.out.arg.cell hlt
      have x2 := HS.out.out.cell hp
      have x3 := HS.out.out.free (zz k)
      have HM := Lib.hid (mix_step .i16 sp (fun i => f (sp i)) k (zz k) (f k) (by rw [sp_zz k hlt]) (sp_iff k hlt))
      generalize zz k = p at x0 hp x2 x3 HM
      go_wp2
      go_region
      all_goals
        go_wp2
        go_roundw
        case rel => exact ⟨k + 1, by go_num, by omega, (HS.out.set HM.out).drew⟩
        case measure => simp [intOf]; omega
    · obtain rfl : k = 64 := by omega
      have HR : Hid (Row 23 .i16 (w.heap.size + 1 + 1) (fun i => f (sp i)) wr) := by
        have := HS.out.out
        unfold Row at this
        rw [mix_all .i16 sp _ sp_lt] at this
        exact this
      go_wp2_with (first
        | refine wpList_load_row rfl 23 _ rfl (w.heap.size + 1 + 1) rfl 23 _ (0, 0) _ HR.out Tryd.underlying23 rfl (sizeB23 _) ?_
        | refine wpList_store_row rfl 23 _ _ rfl (w.heap.size + 1) _ rfl rfl 23 _ HS.out.res (sizeB23 _) ((blk_size _ _).trans (blk_size _ _).symm) (blk_one _ _) ?_)
      refine bodyPost_ret_by (results_cell_row rfl _ _ (w.heap.size + 1) 23 _ (0, 0) _ rfl (Row.setRow HS.out.res) Tryd.underlying23 rfl (sizeB23 _)) rfl ⟨rfl, below_setRow HS.out.low (Nat.le_succ _) _⟩

set_option maxHeartbeats 1000000 in
theorem Swap16 (f : Nat → Int) (w : World) : Calls Tryd.prog 12 #[.agg (blk .i16 f)] w fun e w' => e = .returned (.agg (blk .i16 fun i => f (sw i))) ∧ Below w.heap.size w w' := by
  go_enter Tryd.func12, Tryd.ntmps12
  go_wp2
  go_loopw [6] (fun i wr => ∃ v : Nat, i = .int .i64 v ∧ v ≤ 8 ∧ St 23 .i16 f (mix sw (fun i => f (sw i)) (8 * v)) w wr) (fun i _ => 8 - (intOf i).toNat)
  case atStart => exact ⟨0, rfl, Nat.zero_le _, St.start (by kernel_rfl) (by kernel_rfl) (mix_zero _ _ _)⟩
  case round =>
    obtain ⟨v, rfl, hv, hS⟩ := hrel
    have HS := Lib.hid hS
    clear hS
    by_cases hlt : v < 8
    · go_wp2
      go_loopw [9] (fun i wr => ∃ u : Nat, i = .int .i64 u ∧ u ≤ 8 ∧ St 23 .i16 f (mix sw (fun i => f (sw i)) (8 * v + u)) w wr) (fun i _ => 8 - (intOf i).toNat)
      case atStart => exact ⟨0, rfl, Nat.zero_le _, HS.out⟩
      case round =>
        obtain ⟨u, rfl, hu, hS⟩ := hrel
        have HS := Lib.hid hS
        clear hS
        by_cases hl2 : u < 8
        · have x1 := HS.out.arg.cell (show 8 * v + u < 64 by omega)
          have x2 := HS.out.out.cell (show 8 * u + v < 64 by omega)
          have x3 := HS.out.out.free (8 * u + v)
          have HM := Lib.hid (mix_step .i16 sw (fun i => f (sw i)) (8 * v + u) (8 * u + v) (f (8 * v + u)) (by show f _ = f _; congr 1; unfold sw; omega) (fun i hi => by unfold sw; omega))
          go_wp2
          go_roundw
          case rel => exact ⟨u + 1, by go_num, by omega, HS.out.set HM.out⟩
          case measure => simp [intOf]; omega
        · obtain rfl : u = 8 := by omega
          go_wp2
          go_roundw
          case rel => exact ⟨v + 1, by go_num, by omega, HS.out⟩
          case measure => simp [intOf]; omega
    · obtain rfl : v = 8 := by omega
      have HR : Hid (Row 23 .i16 (w.heap.size + 1 + 1) (fun i => f (sw i)) wr) := by
        have := HS.out.out
        unfold Row at this
        rw [mix_all .i16 sw _ sw_lt] at this
        exact this
      go_wp2_with (first
        | refine wpList_load_row rfl 23 _ rfl (w.heap.size + 1 + 1) rfl 23 _ (0, 0) _ HR.out Tryd.underlying23 rfl (sizeB23 _) ?_
        | refine wpList_store_row rfl 23 _ _ rfl (w.heap.size + 1) _ rfl rfl 23 _ HS.out.res (sizeB23 _) ((blk_size _ _).trans (blk_size _ _).symm) (blk_one _ _) ?_)
      refine bodyPost_ret_by (results_cell_row rfl _ _ (w.heap.size + 1) 23 _ (0, 0) _ rfl (Row.setRow HS.out.res) Tryd.underlying23 rfl (sizeB23 _)) rfl ⟨rfl, below_setRow HS.out.low (Nat.le_succ _) _⟩
end Go.Proofs.YtmdamiodjiipaaaDoor
