/- The document's Table: what lies in memory; its refusals. -/
import Derived.Test.YtlfnjdgfllhepaaRLens
import Derived.Test.YtlfnjdgfllhepaaBCounts
import Derived.Test.YtlfnjdgfllhepaaBTable
namespace Go.Proofs.Ytlfnjdgfllhepaa
open Go.RowKit

theorem zero58 (w : World) : (zeroValue 58).run Try.prog w = .ok (.agg (ints 300 fun _ => 0)) w := zero_of (by kernel_rfl) w
/-- What lies in memory behind the beginning of the document's Table. -/
structure DSt (B : Nat) (fi : Nat → Int) (w wr : World) : Prop where
  arg : RowN 22 256 B fi wr
  res : RowC (B + 1) (fun _ => 0) wr
  loc : RowC (B + 1 + 1) (fun _ => 0) wr
  low : Below B w wr
theorem DSt.on {B : Nat} {fi : Nat → Int} {w wr w' : World} (h : DSt B fi w wr) (hb : Below wr.heap.size wr w') : DSt B fi w w' :=
  ⟨h.arg.on hb, h.res.on hb, h.loc.on hb, h.low.trans (hb.mono (by have := h.arg.lt; omega))⟩
theorem DSt.start (fi : Nat → Int) (w : World) : DSt w.heap.size fi w (((w.alloc (.cells (ints 256 fi) 22)).alloc (.cells (cnt fun _ => 0) 23)).alloc (.cells (cnt fun _ => 0) 23)) := by
  refine ⟨((RowN.new rfl).old _).old _, ?_, ?_, (((Below.refl _ _).alloc (Nat.le_refl _) _).alloc (by rw [size_alloc]; omega) _).alloc (by rw [size_alloc, size_alloc]; omega) _⟩
  · have h := (RowC.new (fun _ => 0) (w.alloc (.cells (ints 256 fi) 22))).old (.cells (cnt fun _ => 0) 23)
    rwa [size_alloc] at h
  · have h := RowC.new (fun _ => 0) ((w.alloc (.cells (ints 256 fi) 22)).alloc (.cells (cnt fun _ => 0) 23))
    rw [size_alloc, size_alloc] at h
    exact h

set_option maxHeartbeats 1000000 in
set_option maxRecDepth 100000 in
theorem RTable_arg (fi : Nat → Int) (h : ¬ Okf fi) (w : World) :
    Calls Try.prog 13 #[.agg (ints 256 fi)] w fun e w' => e = .returned (.tuple #[.agg (cnt fun _ => 0), .string ⟨#[]⟩, .int .i64 1]) ∧ Below w.heap.size w w' := by
  obtain ⟨wb, hwb⟩ : ∃ wb, wb = (((w.alloc (.cells (ints 256 fi) 22)).alloc (.cells (cnt fun _ => 0) 23)).alloc (.cells (cnt fun _ => 0) 23)) := ⟨_, rfl⟩
  have HT : Hid (DSt w.heap.size fi w wb) := hwb ▸ DSt.start fi w
  have HN := Lib.hid h
  have hz23 := zero23
  clear h
  go_enter Try.func13, Try.ntmps13
  go_wp2
  rw [← hwb]
  clear hwb hz23
  go_loop [6, 7] (fun a i => ∃ (n : Nat) (b : Bool), n ≤ 256 ∧ i = .int .i64 n ∧ a = .bool b ∧ ∀ j, j < n → 0 ≤ fi j ∧ fi j ≤ 1099511627776) (fun _ i => 256 - (intOf i).toNat)
  case atStart => exact ⟨0, false, by omega, rfl, rfl, fun j hj => by omega⟩
  case round =>
    obtain ⟨n, b, hn, rfl, rfl, h1⟩ := hrel
    have H1 := Lib.hid h1
    clear h1
    by_cases hlt : n < 256
    · have x0 := HT.out.arg.cell (i := n) (by omega)
      by_cases ha : fi n < 0
      · go_wp2_with (first
          | refine wpList_load_row rfl 23 _ rfl (w.heap.size + 1 + 1) rfl 23 _ (0, 0) _ HT.out.loc Try.underlying23 rfl (size22 _) ?_
          | refine wpList_store_row rfl 23 _ _ rfl (w.heap.size + 1) _ rfl rfl 23 _ HT.out.res (size22 _) ((cnt_size _).trans (cnt_size _).symm) (cnt_one _) ?_)
        refine bodyPost_ret_by (results_row3 rfl _ _ (w.heap.size + 1) _ _ _ rfl rfl rfl (load_cnt _ _ _ (RowC.setRow (c' := fun _ => 0) HT.out.res))) rfl ⟨rfl, below_setRow HT.out.low (by omega) _⟩
      · by_cases hb : fi n > 1099511627776
        · go_wp2_with (first
            | refine wpList_load_row rfl 23 _ rfl (w.heap.size + 1 + 1) rfl 23 _ (0, 0) _ HT.out.loc Try.underlying23 rfl (size22 _) ?_
            | refine wpList_store_row rfl 23 _ _ rfl (w.heap.size + 1) _ rfl rfl 23 _ HT.out.res (size22 _) ((cnt_size _).trans (cnt_size _).symm) (cnt_one _) ?_)
          refine bodyPost_ret_by (results_row3 rfl _ _ (w.heap.size + 1) _ _ _ rfl rfl rfl (load_cnt _ _ _ (RowC.setRow (c' := fun _ => 0) HT.out.res))) rfl ⟨rfl, below_setRow HT.out.low (by omega) _⟩
        · have HO : Hid (∀ j, j < n + 1 → 0 ≤ fi j ∧ fi j ≤ 1099511627776) := fun j hj => by
            by_cases e : j = n
            · subst e; omega
            · exact H1.out j (by omega)
          clear H1
          cases b
          · go_wp2
            go_round
            case rel => exact ⟨n + 1, _, by omega, by go_num, rfl, HO.out⟩
            case measure => simp [intOf]; omega
          · go_wp2
            go_round
            case rel => exact ⟨n + 1, _, by omega, by go_num, rfl, HO.out⟩
            case measure => simp [intOf]; omega
    · obtain rfl : n = 256 := by omega
      exact absurd H1.out HN.out

set_option maxHeartbeats 1000000 in
set_option maxRecDepth 100000 in
theorem RTable_none (fi : Nat → Int) (h : ∀ i, i < 256 → fi i = 0) (w : World) :
    Calls Try.prog 13 #[.agg (ints 256 fi)] w fun e w' => e = .returned (.tuple #[.agg (cnt fun _ => 0), .string ⟨#[]⟩, .int .i64 5]) ∧ Below w.heap.size w w' := by
  obtain ⟨wb, hwb⟩ : ∃ wb, wb = (((w.alloc (.cells (ints 256 fi) 22)).alloc (.cells (cnt fun _ => 0) 23)).alloc (.cells (cnt fun _ => 0) 23)) := ⟨_, rfl⟩
  have HT : Hid (DSt w.heap.size fi w wb) := hwb ▸ DSt.start fi w
  have HN := Lib.hid h
  have hz23 := zero23
  clear h
  go_enter Try.func13, Try.ntmps13
  go_wp2
  rw [← hwb]
  clear hwb hz23
  go_loop [6, 7] (fun a i => ∃ (n : Nat), n ≤ 256 ∧ i = .int .i64 n ∧ a = .bool false) (fun _ i => 256 - (intOf i).toNat)
  case atStart => exact ⟨0, by omega, rfl, rfl⟩
  case round =>
    obtain ⟨n, hn, rfl, rfl⟩ := hrel
    by_cases hlt : n < 256
    · have x0 := HT.out.arg.cell (i := n) (by omega)
      rw [HN.out n hlt] at x0
      go_wp2
      go_round
      case rel => exact ⟨n + 1, by omega, by go_num, rfl⟩
      case measure => simp [intOf]; omega
    · obtain rfl : n = 256 := by omega
      clear hlt
      go_wp2_with (first
        | refine wpList_load_row rfl 23 _ rfl (w.heap.size + 1 + 1) rfl 23 _ (0, 0) _ HT.out.loc Try.underlying23 rfl (size22 _) ?_
        | refine wpList_store_row rfl 23 _ _ rfl (w.heap.size + 1) _ rfl rfl 23 _ HT.out.res (size22 _) ((cnt_size _).trans (cnt_size _).symm) (cnt_one _) ?_)
      refine bodyPost_ret_by (results_row3 rfl _ _ (w.heap.size + 1) _ _ _ rfl rfl rfl (load_cnt _ _ _ (RowC.setRow (c' := fun _ => 0) HT.out.res))) rfl ⟨rfl, below_setRow HT.out.low (by omega) _⟩
end Go.Proofs.Ytlfnjdgfllhepaa
