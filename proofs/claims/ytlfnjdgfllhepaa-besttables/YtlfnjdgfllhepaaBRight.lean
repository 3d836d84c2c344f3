/- BestRight: its walk. -/
import Derived.Test.YtlfnjdgfllhepaaBCost
namespace Go.Proofs.Ytlfnjdgfllhepaa
open Go.RowKit

/-- The argument, boxed. -/
structure ASt (B : Nat) (fi : Nat → Int) (w wr : World) : Prop where
  arg : RowN 22 256 B fi wr
  low : Below B w wr
theorem ASt.on {B : Nat} {fi : Nat → Int} {w wr w' : World} (h : ASt B fi w wr) (hb : Below wr.heap.size wr w') : ASt B fi w w' :=
  ⟨h.arg.on hb, h.low.trans (hb.mono (by have := h.arg.lt; omega))⟩
theorem ASt.start (fi : Nat → Int) (w : World) : ASt w.heap.size fi w (w.alloc (.cells (ints 256 fi) 22)) := ⟨RowN.new rfl, below_new _ _⟩
theorem below_row (w : World) (c c' : Array Value) (t : TypeId) : Below w.heap.size w ((w.alloc (.cells c t)).setRow w.heap.size c') := below_setRow (below_new w _) (Nat.le_refl _) _

set_option maxHeartbeats 1000000 in
set_option maxRecDepth 100000 in
theorem BestRight_no (fi : Nat → Int) (E : Int) (hE : E = 1 ∨ E = 5) (hT : ∀ w, Calls Try.prog 8 #[.agg (ints 256 fi)] w fun e w' => e = .returned (.tuple #[.agg (cnt fun _ => 0), .string ⟨#[]⟩, .int .i64 E]) ∧ Below w.heap.size w w')
    (hr : ∀ w, Calls Try.prog 9 #[.agg (ints 256 fi)] w fun e w' => e = .returned (.bool false) ∧ Below w.heap.size w w') (w : World) :
    Calls Try.prog 3 #[.agg (ints 256 fi)] w fun e w' => e = .returned (.bool true) ∧ Below w.heap.size w w' := by
  obtain ⟨wb, hwb⟩ : ∃ wb, wb = w.alloc (.cells (ints 256 fi) 22) := ⟨_, rfl⟩
  have HS : Hid (ASt w.heap.size fi w wb) := hwb ▸ ASt.start fi w
  have HT := Lib.hid hT
  have HR := Lib.hid hr
  have HA := Lib.hid awake_any
  have hz23 := zero23
  clear hT hr
  rcases hE with rfl | rfl
  all_goals
    go_enter Try.func3, Try.ntmps3
    go_upto_region 1 with fail
    rw [← hwb]
    clear hwb
    go_wp2_with (first
      | refine wpList_load_row rfl 22 _ rfl w.heap.size rfl 22 _ (0, 0) _ HS2.out.arg Try.underlying22 rfl (size22i _) ?_
      | refine wpList_load_row rfl 22 _ rfl w.heap.size rfl 22 _ (0, 0) _ HS.out.arg Try.underlying22 rfl (size22i _) ?_
      | (go_at_call 8; refine (HT.out wb).mono ?_; rintro e w1 ⟨rfl, hb1⟩; have HS1 := Lib.hid (HS.out.on hb1); clear hb1 HT HS)
      | (refine wpList_store_row rfl 23 _ _ rfl w1.heap.size _ rfl rfl 23 _ (heap_alloc_new _ _) (size22 _) ((cnt_size _).trans (cnt_size _).symm) (cnt_one _) ?_; have HS2 := Lib.hid (HS1.out.on (below_row w1 (cnt fun _ => 0) (cnt fun _ => 0) 23)))
      | (go_at_call 9; refine (HR.out _).mono ?_; rintro e w3 ⟨rfl, hb3⟩; have HS3 := Lib.hid (HS2.out.on hb3); clear hb3 HR)
      | (go_at_call 10; refine (HA.out w3).mono ?_; rintro e w4 ⟨rfl, hb4⟩; have HS4 := Lib.hid (HS3.out.on hb4); clear hb4 HA))
    go_ret
    exact ⟨rfl, HS4.out.low⟩

set_option maxHeartbeats 1000000 in
set_option maxRecDepth 100000 in
theorem BestRight_yes (f : Nat → Nat) (fi : Nat → Int) (hfi : ∀ i, i < 256 → fi i = f i) (C : Nat → Nat) (hC : ∀ i, C i < 256) (S : ByteArray) (hS : S.size ≤ maxLen) (hRt : Right C S.data.toList) (hm : ∀ x, x < 256 → (x.toUInt8 ∈ S.data.toList ↔ f x ≠ 0))
    (hT : ∀ w, Calls Try.prog 8 #[.agg (ints 256 fi)] w fun e w' => e = .returned (.tuple #[.agg (cnt C), .string S, .int .i64 0]) ∧ Below w.heap.size w w')
    (hr : ∀ w, Calls Try.prog 9 #[.agg (ints 256 fi)] w fun e w' => e = .returned (.bool true) ∧ Below w.heap.size w w') (w : World) :
    Calls Try.prog 3 #[.agg (ints 256 fi)] w fun e w' => e = .returned (.bool true) ∧ Below w.heap.size w w' := by
  obtain ⟨wb, hwb⟩ : ∃ wb, wb = w.alloc (.cells (ints 256 fi) 22) := ⟨_, rfl⟩
  have HS : Hid (ASt w.heap.size fi w wb) := hwb ▸ ASt.start fi w
  have HT := Lib.hid hT
  have HR := Lib.hid hr
  have HA := Lib.hid awake_any
  have HN := Lib.hid (New_yes C hC S hS hRt)
  have HC := Lib.hid hC
  have HRt := Lib.hid hRt
  have HM := Lib.hid hm
  have HFI := Lib.hid hfi
  have hz23 := zero23
  clear hT hr hC hS hRt hm hfi
  go_enter Try.func3, Try.ntmps3
  go_upto_region 1 with fail
  rw [← hwb]
  clear hwb
  go_wp2_with (first
    | refine wpList_load_row rfl 22 _ rfl w.heap.size rfl 22 _ (0, 0) _ HS2.out.arg Try.underlying22 rfl (size22i _) ?_
    | refine wpList_load_row rfl 22 _ rfl w.heap.size rfl 22 _ (0, 0) _ HS.out.arg Try.underlying22 rfl (size22i _) ?_
    | (go_at_call 8; refine (HT.out wb).mono ?_; rintro e w1 ⟨rfl, hb1⟩; have HS1 := Lib.hid (HS.out.on hb1); clear hb1 HT HS)
    | (refine wpList_store_row rfl 23 _ _ rfl w1.heap.size _ rfl rfl 23 _ (heap_alloc_new _ _) (size22 _) ((cnt_size _).trans (cnt_size _).symm) (cnt_one _) ?_; have HS2 := Lib.hid (HS1.out.on (below_row w1 (cnt fun _ => 0) (cnt C) 23)); have HC2 : Hid (RowC w1.heap.size C ((w1.alloc (.cells (cnt fun _ => 0) 23)).setRow w1.heap.size (cnt C))) := RowC.setRow (c := fun _ => 0) (heap_alloc_new _ _))
    | (go_at_call 9; refine (HR.out _).mono ?_; rintro e w3 ⟨rfl, hb3⟩; have HS3 := Lib.hid (HS2.out.on hb3); have HC3 := Lib.hid (HC2.out.on hb3); clear hb3 HR)
    | refine wpList_load_row rfl 23 _ rfl w1.heap.size rfl 23 _ (0, 0) _ HC3.out Try.underlying23 rfl (size22 _) ?_
    | (go_at_call 11; refine (HN.out w3).mono ?_; rintro e w4 ⟨g, rfl, hg, _, hb4⟩; have HG := Lib.hid hg; have HS4 := Lib.hid (HS3.out.on hb4); clear hg hb4 HN))
  go_loop [8] (fun i => ∃ n : Nat, n ≤ 256 ∧ i = .int .i64 n) (fun i => 256 - (intOf i).toNat)
  case atStart => exact ⟨0, by omega, rfl⟩
  case round =>
    obtain ⟨n, hn, rfl⟩ := hrel
    by_cases hlt : n < 256
    · have x0 := HS4.out.arg.cell (i := n) hlt
      rw [HFI.out n hlt] at x0
      by_cases h0 : f n = 0
      · have HCd := Lib.hid (Code_no g C S n hlt (fun h => (HM.out n hlt).1 h h0) w4 HG.out)
        rw [h0] at x0
        go_wp2_with (go_at_call 12; refine HCd.out.mono ?_; rintro e w5 ⟨rfl, rfl⟩; clear HCd)
        go_round
        case rel => exact ⟨n + 1, by omega, by go_num⟩
        case measure => simp [intOf]; omega
      · have HCd := Lib.hid (Code_mem g C HC.out S HRt.out n hlt ((HM.out n hlt).2 h0) w4 HG.out)
        have hp : 0 < f n := by omega
        clear h0
        generalize f n = q at *
        generalize clen C S.data.toList n = l at *
        generalize codeN C _ = v at *
        go_wp2_with (go_at_call 12; refine HCd.out.mono ?_; rintro e w5 ⟨rfl, rfl⟩; clear HCd)
        go_round
        case rel => exact ⟨n + 1, by omega, by go_num⟩
        case measure => simp [intOf]; omega
    · obtain rfl : n = 256 := by omega
      clear hlt
      go_wp2_with (go_at_call 10; refine (HA.out w4).mono ?_; rintro e w5 ⟨rfl, hb5⟩; have HS5 := Lib.hid (HS4.out.on hb5); clear hb5 HA)
      go_ret
      exact ⟨rfl, HS5.out.low⟩
end Go.Proofs.Ytlfnjdgfllhepaa
