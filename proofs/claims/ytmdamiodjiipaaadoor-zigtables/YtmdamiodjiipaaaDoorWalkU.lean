/- Walks over tables of uint16: Zig, Back, Swap. -/
import Derived.Test.YtmdamiodjiipaaaDoorWalk2
namespace Go.Proofs.YtmdamiodjiipaaaDoor
open Go.RowKit

theorem size33 : (Tryd.prog.info? 33).map (·.size) = some 64 := by kernel_rfl
theorem sizeB33 (f : Nat → Int) : (Tryd.prog.info? 33).map (·.size) = some (blk .u16 f).size := by rw [blk_size]; exact size33

set_option maxHeartbeats 1000000 in
theorem ZigU (f : Nat → Int) (w : World) (hT : Tab w) : Calls Tryd.prog 18 #[.agg (blk .u16 f)] w fun e w' => e = .returned (.agg (blk .u16 fun k => f (zz k))) ∧ Below w.heap.size w w' := by
  have HT := Lib.hid hT
  clear hT
  go_enter Tryd.func18, Tryd.ntmps18
  go_wp2
  go_loopw [5] (fun i wr => ∃ k : Nat, i = .int .i64 k ∧ k ≤ 64 ∧ St 33 .u16 f (mix id (fun k => f (zz k)) k) w wr) (fun i _ => 64 - (intOf i).toNat)
  case atStart => exact ⟨0, rfl, Nat.zero_le _, St.start (by kernel_rfl) (by kernel_rfl) (mix_zero _ _ _)⟩
  case round =>
    obtain ⟨k, rfl, hk, hS⟩ := hrel
    have HS := Lib.hid hS
    clear hS
    by_cases hlt : k < 64
    · have x0 := HT.out.over HS.out.low hlt
      have hp := zz_lt k hlt
      have x1 := HS.out.arg.cell hp
      have x2 := HS.out.out.cell hlt
      have x3 := HS.out.out.free k
      have HM := Lib.hid (mix_step .u16 id (fun k => f (zz k)) k k (f (zz k)) rfl fun i _ => id_iff k i)
      generalize zz k = p at x0 hp x1 HM
      go_wp2
      go_roundw
      case rel => exact ⟨k + 1, by go_num, by omega, HS.out.set HM.out⟩
      case measure => simp [intOf]; omega
    · obtain rfl : k = 64 := by omega
      have HR : Hid (Row 33 .u16 (w.heap.size + 1 + 1) (fun k => f (zz k)) wr) := by
        have := HS.out.out
        unfold Row at this
        rw [mix_all .u16 id _ fun i hi => hi] at this
        exact this
      go_wp2_with (first
        | refine wpList_load_row rfl 33 _ rfl (w.heap.size + 1 + 1) rfl 33 _ (0, 0) _ HR.out Tryd.underlying33 rfl (sizeB33 _) ?_
        | refine wpList_store_row rfl 33 _ _ rfl (w.heap.size + 1) _ rfl rfl 33 _ HS.out.res (sizeB33 _) ((blk_size _ _).trans (blk_size _ _).symm) (blk_one _ _) ?_)
      refine bodyPost_ret_by (results_cell_row rfl _ _ (w.heap.size + 1) 33 _ (0, 0) _ rfl (Row.setRow HS.out.res) Tryd.underlying33 rfl (sizeB33 _)) rfl ⟨rfl, below_setRow HS.out.low (Nat.le_succ _) _⟩
set_option maxHeartbeats 1000000 in
theorem BackU (f : Nat → Int) (w : World) (hT : Tab w) : Calls Tryd.prog 20 #[.agg (blk .u16 f)] w fun e w' => e = .returned (.agg (blk .u16 fun i => f (sp i))) ∧ Below w.heap.size w w' := by
  have HT := Lib.hid hT
  clear hT
  go_enter Tryd.func20, Tryd.ntmps20
  go_wp2
  go_loopw [5] (fun i wr => ∃ k : Nat, i = .int .i64 k ∧ k ≤ 64 ∧ St 33 .u16 f (mix sp (fun i => f (sp i)) k) w wr) (fun i _ => 64 - (intOf i).toNat)
  case atStart => exact ⟨0, rfl, Nat.zero_le _, St.start (by kernel_rfl) (by kernel_rfl) (mix_zero _ _ _)⟩
  case round =>
    obtain ⟨k, rfl, hk, hS⟩ := hrel
    have HS := Lib.hid hS
    clear hS
    by_cases hlt : k < 64
    · have x0 := HT.out.over HS.out.low hlt
      have hp := zz_lt k hlt
      have x1 := HS.out.arg.cell hlt
      have x2 := HS.out.out.cell hp
      have x3 := HS.out.out.free (zz k)
      have HM := Lib.hid (mix_step .u16 sp (fun i => f (sp i)) k (zz k) (f k) (by rw [sp_zz k hlt]) (sp_iff k hlt))
      generalize zz k = p at x0 hp x2 x3 HM
      go_wp2
      go_region
      all_goals
        go_wp2
        go_roundw
        case rel => exact ⟨k + 1, by go_num, by omega, (HS.out.set HM.out).drew⟩
        case measure => simp [intOf]; omega
    · obtain rfl : k = 64 := by omega
      have HR : Hid (Row 33 .u16 (w.heap.size + 1 + 1) (fun i => f (sp i)) wr) := by
        have := HS.out.out
        unfold Row at this
        rw [mix_all .u16 sp _ sp_lt] at this
        exact this
      go_wp2_with (first
        | refine wpList_load_row rfl 33 _ rfl (w.heap.size + 1 + 1) rfl 33 _ (0, 0) _ HR.out Tryd.underlying33 rfl (sizeB33 _) ?_
        | refine wpList_store_row rfl 33 _ _ rfl (w.heap.size + 1) _ rfl rfl 33 _ HS.out.res (sizeB33 _) ((blk_size _ _).trans (blk_size _ _).symm) (blk_one _ _) ?_)
      refine bodyPost_ret_by (results_cell_row rfl _ _ (w.heap.size + 1) 33 _ (0, 0) _ rfl (Row.setRow HS.out.res) Tryd.underlying33 rfl (sizeB33 _)) rfl ⟨rfl, below_setRow HS.out.low (Nat.le_succ _) _⟩

set_option maxHeartbeats 1000000 in
theorem SwapU (f : Nat → Int) (w : World) : Calls Tryd.prog 19 #[.agg (blk .u16 f)] w fun e w' => e = .returned (.agg (blk .u16 fun i => f (sw i))) ∧ Below w.heap.size w w' := by
  go_enter Tryd.func19, Tryd.ntmps19
  go_wp2
  go_loopw [6] (fun i wr => ∃ v : Nat, i = .int .i64 v ∧ v ≤ 8 ∧ St 33 .u16 f (mix sw (fun i => f (sw i)) (8 * v)) w wr) (fun i _ => 8 - (intOf i).toNat)
  case atStart => exact ⟨0, rfl, Nat.zero_le _, St.start (by kernel_rfl) (by kernel_rfl) (mix_zero _ _ _)⟩
  case round =>
    obtain ⟨v, rfl, hv, hS⟩ := hrel
    have HS := Lib.hid hS
    clear hS
    by_cases hlt : v < 8
    · go_wp2
      go_loopw [9] (fun i wr => ∃ u : Nat, i = .int .i64 u ∧ u ≤ 8 ∧ St 33 .u16 f (mix sw (fun i => f (sw i)) (8 * v + u)) w wr) (fun i _ => 8 - (intOf i).toNat)
      case atStart => exact ⟨0, rfl, Nat.zero_le _, HS.out⟩
      case round =>
        obtain ⟨u, rfl, hu, hS⟩ := hrel
        have HS := Lib.hid hS
        clear hS
        by_cases hl2 : u < 8
        · have x1 := HS.out.arg.cell (show 8 * v + u < 64 by omega)
          have x2 := HS.out.out.cell (show 8 * u + v < 64 by omega)
          have x3 := HS.out.out.free (8 * u + v)
          have HM := Lib.hid (mix_step .u16 sw (fun i => f (sw i)) (8 * v + u) (8 * u + v) (f (8 * v + u)) (by show f _ = f _; congr 1; unfold sw; omega) (fun i hi => by unfold sw; omega))
          go_wp2
          go_roundw
          case rel => exact ⟨u + 1, by go_num, by omega, HS.out.set HM.out⟩
          case measure => simp [intOf]; omega
        · obtain rfl : u = 8 := by omega
          go_wp2
          go_roundw
          case rel => exact ⟨v + 1, by go_num, by omega, HS.out⟩
          case measure => simp [intOf]; omega
    · obtain rfl : v = 8 := by omega
      have HR : Hid (Row 33 .u16 (w.heap.size + 1 + 1) (fun i => f (sw i)) wr) := by
        have := HS.out.out
        unfold Row at this
        rw [mix_all .u16 sw _ sw_lt] at this
        exact this
      go_wp2_with (first
        | refine wpList_load_row rfl 33 _ rfl (w.heap.size + 1 + 1) rfl 33 _ (0, 0) _ HR.out Tryd.underlying33 rfl (sizeB33 _) ?_
        | refine wpList_store_row rfl 33 _ _ rfl (w.heap.size + 1) _ rfl rfl 33 _ HS.out.res (sizeB33 _) ((blk_size _ _).trans (blk_size _ _).symm) (blk_one _ _) ?_)
      refine bodyPost_ret_by (results_cell_row rfl _ _ (w.heap.size + 1) 33 _ (0, 0) _ rfl (Row.setRow HS.out.res) Tryd.underlying33 rfl (sizeB33 _)) rfl ⟨rfl, below_setRow HS.out.low (Nat.le_succ _) _⟩
end Go.Proofs.YtmdamiodjiipaaaDoor
