/- Walks of the document's own answers: FoldRune, Bytes, Fold. -/
import Derived.Test.YthkjnhihpbomaaaDoorRefRune2
namespace Go.Proofs.YthkjnhihpbomaaaDoor
open Go.RowKit

set_option maxRecDepth 100000 in
set_option maxHeartbeats 4000000 in
theorem rFoldRune_any (r : Nat) (hr : r ≤ 1114111) (w : World) : Calls Tryd.prog 41 #[.int .i64 r] w fun e w' => e = .returned (.int .i64 (foldR r : Nat)) ∧ w' = w := by
  have hcases : (r : Int) < 65 ∨ (65 ≤ (r : Int) ∧ (r : Int) ≤ 90) ∨ (90 < (r : Int) ∧ (r : Int) < 192) ∨ (192 ≤ (r : Int) ∧ (r : Int) < 215) ∨ r = 215 ∨ (215 < (r : Int) ∧ (r : Int) ≤ 222) ∨ (222 < (r : Int) ∧ (r : Int) < 913) ∨ (913 ≤ (r : Int) ∧ (r : Int) < 930) ∨ r = 930 ∨ (930 < (r : Int) ∧ (r : Int) ≤ 937) ∨ (937 < (r : Int) ∧ (r : Int) < 1024) ∨ (1024 ≤ (r : Int) ∧ (r : Int) ≤ 1039) ∨ (1040 ≤ (r : Int) ∧ (r : Int) ≤ 1071) ∨ 1071 < (r : Int) := by omega
  have close : ∀ (a : Int), a = (foldR r : Nat) → Ending.returned (.int .i64 a) = Ending.returned (.int .i64 ((foldR r : Nat) : Int)) := fun a h => by rw [h]
  rcases hcases with h | ⟨h, h'⟩ | ⟨h, h'⟩ | ⟨h, h'⟩ | rfl | ⟨h, h'⟩ | ⟨h, h'⟩ | ⟨h, h'⟩ | rfl | ⟨h, h'⟩ | ⟨h, h'⟩ | ⟨h, h'⟩ | ⟨h, h'⟩ | h
  all_goals
    have Hc := Lib.hid close
    clear close
    go_enter Tryd.func41, Tryd.ntmps41
    go_wp2
    go_ret
    refine ⟨Hc.out _ ?_, rfl⟩
    unfold foldR
    repeat' split
    all_goals omega

end Go.Proofs.YthkjnhihpbomaaaDoor
