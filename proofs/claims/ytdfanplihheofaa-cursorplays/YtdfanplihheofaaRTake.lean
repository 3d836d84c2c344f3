/- A walk: the document's Take. -/
import Derived.Test.YtdfanplihheofaaWalk2
import Derived.Deep.RegionWith
namespace Go.Proofs.Ytdfanplihheofaa
open Go.RowKit

set_option maxHeartbeats 4000000 in
theorem rTake_arg (s : ByteArray) (a : Nat) (z : Int) (hz : z < 0) (w : World) :
    Calls Try.prog 14 #[.agg #[.string s, .int .i64 a], .int .i64 z] w fun e w' => e = .returned (.tuple #[.string ⟨#[]⟩, .agg #[.string s, .int .i64 a], .int .i64 1]) ∧ Below w.heap.size w w' := by
  go_enter Try.func14, Try.ntmps14
  go_wp2
  go_region
  go_wp2
  refine bodyPost_ret (v := .tuple #[.string ⟨#[]⟩, .agg #[.string s, .int .i64 a], .int .i64 1]) (by simp [results, Try.results14, go_sem]) rfl ⟨rfl, ?_⟩
  exact (((Below.refl _ _).alloc (Nat.le_refl _) _).alloc (by simp) _).drew
set_option maxHeartbeats 4000000 in
theorem rTake_short (s : ByteArray) (a : Nat) (z : Int) (hs : s.size ≤ 5000) (ha : a ≤ s.size) (hz : (s.size - a : Nat) < z) (w : World) :
    Calls Try.prog 14 #[.agg #[.string s, .int .i64 a], .int .i64 z] w fun e w' => e = .returned (.tuple #[.string ⟨#[]⟩, .agg #[.string s, .int .i64 a], .int .i64 2]) ∧ Below w.heap.size w w' := by
  have hz0 : ¬ z < 0 := by omega
  have hz1 : (s.size : Int) - (a : Int) < z := by omega
  go_enter Try.func14, Try.ntmps14
  go_wp2
  go_region
  go_wp2
  refine bodyPost_ret (v := .tuple #[.string ⟨#[]⟩, .agg #[.string s, .int .i64 a], .int .i64 2]) (by simp [results, Try.results14, go_sem]) rfl ⟨rfl, ?_⟩
  exact (((Below.refl _ _).alloc (Nat.le_refl _) _).alloc (by simp) _).drew
set_option maxHeartbeats 4000000 in
theorem rTake_yes (s : ByteArray) (a n : Nat) (hs : s.size ≤ 5000) (hn : a + n ≤ s.size) (w : World) :
    Calls Try.prog 14 #[.agg #[.string s, .int .i64 a], .int .i64 n] w fun e w' => e = .returned (.tuple #[.string (s.extract a (a + n)), .agg #[.string s, .int .i64 (a + n : Nat)], .int .i64 0]) ∧ Below w.heap.size w w' := by
  have hz1 : ¬ (s.size : Int) - (a : Int) < (n : Int) := by omega
  go_enter Try.func14, Try.ntmps14
  go_wp2
  go_region
  go_wp2
  refine bodyPost_ret (v := .tuple #[.string (s.extract a (a + n)), .agg #[.string s, .int .i64 (a + n : Nat)], .int .i64 0]) (by simp [results, Try.results14, go_sem]) rfl ⟨rfl, ?_⟩
  exact (((Below.refl _ _).alloc (Nat.le_refl _) _).alloc (by simp) _).drew

theorem rTake_any (s : ByteArray) (a : Nat) (z : Int) (hs : s.size ≤ 5000) (ha : a ≤ s.size) (w : World) :
    Calls Try.prog 14 #[.agg #[.string s, .int .i64 a], .int .i64 z] w fun e w' => e = .returned (.tuple #[.string (taken s a z).1, .agg #[.string s, .int .i64 (taken s a z).2.1], .int .i64 (taken s a z).2.2]) ∧ Below w.heap.size w w' := by
  unfold taken
  split
  · rename_i h1
    exact rTake_arg s a z h1 w
  · split
    · rename_i h2
      exact rTake_short s a z hs ha h2 w
    · obtain ⟨m, rfl⟩ := Int.eq_ofNat_of_zero_le (show 0 ≤ z by omega)
      exact rTake_yes s a m hs (by omega) w
end Go.Proofs.Ytdfanplihheofaa
