/- The program's closure that compares symbols. -/
import Derived.Test.YtlfnjdgfllhepaaBCmp
import Derived.Sort.Grow
namespace Go.Proofs.Ytlfnjdgfllhepaa
open Go.RowKit Go.Sort

set_option maxHeartbeats 4000000 in
set_option maxRecDepth 100000 in
theorem closure_any (B : Nat) (L : Nat → Nat) (x y : Nat) (hx : x < 256) (hy : y < 256) (c1 c2 r : Int) (h1 : c1 = cmpN (L x) (L y)) (h2 : c2 = cmpN x y) (hr : r = or2 c1 c2) (w : World) (hw : ∀ i, i < 257 → w.cell? ⟨B, i, none⟩ = some (.int .i64 (L i))) :
    Calls Try.prog 32 #[.int .u8 x, .int .u8 y, .pointer (some ⟨B, 0, none⟩)] w fun e w' => e = .returned (.int .i64 r) ∧ ∃ q os', w' = grow (w.drewN q) os' := by
  have x0 := hw x (by omega)
  have x1 := hw y (by omega)
  have HC := Lib.hid (h1 ▸ compare_int (L x) (L y))
  have HD := Lib.hid (h2 ▸ compare_byte x y)
  have HR := Lib.hid hr
  clear h1 h2 hr hw
  have HO := Lib.hid (or_two w.heap.size c1 c2 (w.alloc (Obj.cells #[.int .i64 c1, .int .i64 c2] 3)).drew
    (by show (w.alloc (Obj.cells #[.int .i64 c1, .int .i64 c2] 3)).cell? _ = _; rw [cell_of_row _ _ 0 _ 3 (0, 0) (heap_alloc_new _ _)]; rfl)
    (by show (w.alloc (Obj.cells #[.int .i64 c1, .int .i64 c2] 3)).cell? _ = _; rw [cell_of_row _ _ 1 _ 3 (0, 0) (heap_alloc_new _ _)]; rfl))
  generalize L x = p at *
  generalize L y = q at *
  go_enter Try.func32, Try.ntmps32
  go_wp2
  go_region_with (first
    | (go_at_call 34; refine (HC.out _).mono ?_; rintro e w1 ⟨rfl, rfl⟩)
    | (go_at_call 35; refine (HD.out _).mono ?_; rintro e w1 ⟨rfl, rfl⟩)
    | (go_at_call 33; refine HO.out.mono ?_; rintro e w1 ⟨rfl, rfl⟩))
  all_goals (go_wp2; go_ret; exact ⟨by rw [HR.out]; rfl, 1, #[Obj.cells #[.int .i64 c1, .int .i64 c2] 3], by rw [alloc_eq_grow]; rfl⟩)
end Go.Proofs.Ytlfnjdgfllhepaa
