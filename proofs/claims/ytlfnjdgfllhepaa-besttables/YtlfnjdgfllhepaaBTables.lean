/- BestTables answers true at every array of 256 numbers: its walk. -/
import Derived.Test.YtlfnjdgfllhepaaRTab2
import Derived.Test.YtlfnjdgfllhepaaBRights
namespace Go.Proofs.Ytlfnjdgfllhepaa
open Go.RowKit

theorem run_part_cnt (w : World) (c : Nat → Nat) {i : Nat} (hi : i < 16) : (part 5 (cnt c) i).run Try.prog w = .ok (.int .u8 (c i : Nat)) w := by
  unfold part isAgg
  simp only [Sem.run_bind, run_underlying Try.underlying5, Result.andThen_ok, Sem.run_pure, Bool.false_eq_true, if_false, cnt_at c i hi]
theorem run_eqItems_cnt (d : Nat) (c : Nat → Nat) : ∀ (is : List Nat) (w : World), (∀ i ∈ is, i < 16) → (Op.eqItems (d + 1) 5 1 (cnt c) (cnt c) is).run Try.prog w = .ok true w
  | [], w, _ => by simp [Op.eqItems]
  | i :: is, w, h => by
    have hi := h i (by simp)
    have ih := run_eqItems_cnt d c is w fun j hj => h j (by simp [hj])
    simp only [Op.eqItems, Sem.run_bind, Nat.mul_one, run_part_cnt w c hi, Result.andThen_ok, run_equalIn_int w d 5 .u8 .u8 _ _ Try.underlying5]
    simpa using ih
theorem info5e : ∃ i, Try.prog.info? 5 = some i := Option.isSome_iff_exists.1 (by kernel_rfl)
theorem run_equal_cnt (w : World) (c : Nat → Nat) : (Op.equalIn 10000 23 (.agg (cnt c)) (.agg (cnt c))).run Try.prog w = .ok true w := by
  obtain ⟨i, hi⟩ := info5e
  rw [show (10000 : Nat) = 9998 + 1 + 1 from rfl, run_equalIn_array w (9998 + 1) _ _ Try.underlying23 hi, cells5]
  exact run_eqItems_cnt 9998 c _ w fun j hj => by simpa using hj

set_option maxHeartbeats 1000000 in
set_option maxRecDepth 100000 in
theorem BestTables_at (fi : Nat → Int) (C : Nat → Nat) (S : ByteArray) (E : Int) (hT : ∀ w, Calls Try.prog 8 #[.agg (ints 256 fi)] w fun e w' => e = .returned (.tuple #[.agg (cnt C), .string S, .int .i64 E]) ∧ Below w.heap.size w w')
    (hR : ∀ w, Calls Try.prog 13 #[.agg (ints 256 fi)] w fun e w' => e = .returned (.tuple #[.agg (cnt C), .string S, .int .i64 E]) ∧ Below w.heap.size w w') (w : World) :
    Calls Try.prog 5 #[.agg (ints 256 fi)] w fun e w' => e = .returned (.bool true) ∧ Below w.heap.size w w' := by
  obtain ⟨wb, hwb⟩ : ∃ wb, wb = w.alloc (.cells (ints 256 fi) 22) := ⟨_, rfl⟩
  have HS : Hid (ASt w.heap.size fi w wb) := hwb ▸ ASt.start fi w
  have HT := Lib.hid hT
  have HR := Lib.hid hR
  have HA := Lib.hid awake_any
  have hz23 := zero23
  have hE : ∀ w, (Op.equalIn 10000 23 (.agg (cnt C)) (.agg (cnt C))).run Try.prog w = .ok true w := fun w => run_equal_cnt w C
  have hEG : Try.prog.eqGuardType Try.prog.depth 23 = false := by kernel_rfl
  clear hT hR
  go_enter Try.func5, Try.ntmps5
  go_upto_region 1 with fail
  rw [← hwb]
  clear hwb
  go_wp2_with (first
    | refine wpList_load_row rfl 22 _ rfl w.heap.size rfl 22 _ (0, 0) _ HS2.out.arg Try.underlying22 rfl (size22i _) ?_
    | refine wpList_load_row rfl 22 _ rfl w.heap.size rfl 22 _ (0, 0) _ HS.out.arg Try.underlying22 rfl (size22i _) ?_
    | (go_at_call 8; refine (HT.out wb).mono ?_; rintro e w1 ⟨rfl, hb1⟩; have HS1 := Lib.hid (HS.out.on hb1); clear hb1 HT HS)
    | (refine wpList_store_row rfl 23 _ _ rfl w1.heap.size _ rfl rfl 23 _ (heap_alloc_new _ _) (size22 _) ((cnt_size _).trans (cnt_size _).symm) (cnt_one _) ?_; have HS2 := Lib.hid (HS1.out.on (below_row w1 (cnt fun _ => 0) (cnt C) 23)); have HC2 : Hid (RowC w1.heap.size C ((w1.alloc (.cells (cnt fun _ => 0) 23)).setRow w1.heap.size (cnt C))) := RowC.setRow (RowC.new _ _))
    | (go_at_call 13; refine (HR.out _).mono ?_; rintro e w3 ⟨rfl, hb3⟩; have HS3 := Lib.hid (HS2.out.on hb3); have HC3 := Lib.hid (HC2.out.on hb3); clear hb3 HR)
    | (refine wpList_store_row rfl 23 _ _ rfl w3.heap.size _ rfl rfl 23 _ (heap_alloc_new _ _) (size22 _) ((cnt_size _).trans (cnt_size _).symm) (cnt_one _) ?_; have hbr := below_row w3 (cnt fun _ => 0) (cnt C) 23; have HS4 := Lib.hid (HS3.out.on hbr); have HC4 := Lib.hid (HC3.out.on hbr); clear hbr; have HD4 : Hid (RowC w3.heap.size C ((w3.alloc (.cells (cnt fun _ => 0) 23)).setRow w3.heap.size (cnt C))) := RowC.setRow (RowC.new _ _))
    | (go_at_call 10; refine (HA.out _).mono ?_; rintro e w5 ⟨rfl, hb5⟩; have HS5 := Lib.hid (HS4.out.on hb5); have HC5 := Lib.hid (HC4.out.on hb5); have HD5 := Lib.hid (HD4.out.on hb5); clear hb5 HA)
    | refine wpList_counts rfl _ rfl w1.heap.size rfl C HC5.out ?_
    | refine wpList_counts rfl _ rfl w3.heap.size rfl C HD5.out ?_)
  go_ret
  exact ⟨by simp, HS5.out.low⟩
theorem BestTables_any (fi : Nat → Int) (w : World) : Calls Try.prog 5 #[.agg (ints 256 fi)] w fun e w' => e = .returned (.bool true) ∧ Below w.heap.size w w' := by
  rcases kinds fi with h | ⟨h, h0⟩ | ⟨h, y, hy, hfy⟩
  · exact BestTables_at fi _ _ 1 (Table_arg fi h) (RTable_arg fi h) w
  · exact BestTables_at fi _ _ 5 (Table_none fi h0) (RTable_none fi h0) w
  · exact BestTables_at fi _ _ 0 (Table_yes (fun i => (fi i).toNat) fi (okf_nat h) (okf_le h) y hy hfy _ rfl _ rfl) (RTable_yes (fun i => (fi i).toNat) fi (okf_nat h) (okf_le h) y hy hfy _ rfl _ rfl) w
end Go.Proofs.Ytlfnjdgfllhepaa
