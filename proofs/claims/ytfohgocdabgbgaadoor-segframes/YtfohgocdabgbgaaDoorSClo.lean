/- The questions whether an id stands ahead. -/
import Derived.Test.YtfohgocdabgbgaaDoorSPart
namespace Go.Proofs.YtfohgocdabgbgaaDoor
open Go.RowKit

set_option maxHeartbeats 1000000 in
theorem same_pick (i d a n : Int) (g : Nat) (w : World) (h : w.cell? ⟨g, 0, none⟩ = some (.int .i64 n)) :
    Calls Tryd.prog 62 #[.agg #[.int .i64 i, .int .i64 d, .int .i64 a], .pointer (some ⟨g, 0, none⟩)] w fun e w' => e = .returned (.bool (i == n)) ∧ Below w.heap.size w w' := by
  have HB := Lib.hid (below_new w (.cells #[.int .i64 i, .int .i64 d, .int .i64 a] 117))
  have x0 := cell_below h HB.out
  clear h
  go_enter Tryd.func62, Tryd.ntmps62
  go_wp2
  go_ret
  exact ⟨rfl, HB.out⟩
set_option maxHeartbeats 1000000 in
theorem same_part (i h' v q n : Int) (g : Nat) (w : World) (h : w.cell? ⟨g, 0, none⟩ = some (.int .i64 n)) :
    Calls Tryd.prog 68 #[.agg #[.int .i64 i, .int .i64 h', .int .i64 v, .int .i64 q], .pointer (some ⟨g, 0, none⟩)] w fun e w' => e = .returned (.bool (i == n)) ∧ Below w.heap.size w w' := by
  have HB := Lib.hid (below_new w (.cells #[.int .i64 i, .int .i64 h', .int .i64 v, .int .i64 q] 80))
  have x0 := cell_below h HB.out
  clear h
  go_enter Tryd.func68, Tryd.ntmps68
  go_wp2
  go_ret
  exact ⟨rfl, HB.out⟩
end Go.Proofs.YtfohgocdabgbgaaDoor
