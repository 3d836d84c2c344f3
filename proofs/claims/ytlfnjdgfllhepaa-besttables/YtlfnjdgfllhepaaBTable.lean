/- The program's Table: its walk. -/
import Derived.Test.YtlfnjdgfllhepaaBInv
namespace Go.Proofs.Ytlfnjdgfllhepaa
open Go.RowKit

/-- What lies in memory behind Table's beginning. -/
structure TSt (B : Nat) (fi : Nat → Int) (w wr : World) : Prop where
  arg : RowN 22 256 B fi wr
  res : RowC (B + 1) (fun _ => 0) wr
  low : Below B w wr
theorem TSt.on {B : Nat} {fi : Nat → Int} {w wr w' : World} (h : TSt B fi w wr) (hb : Below wr.heap.size wr w') : TSt B fi w w' :=
  ⟨h.arg.on hb, h.res.on hb, h.low.trans (hb.mono (by have := h.arg.lt; omega))⟩
theorem TSt.start (fi : Nat → Int) (w : World) : TSt w.heap.size fi w ((w.alloc (.cells (ints 256 fi) 22)).alloc (.cells (cnt fun _ => 0) 23)) := by
  refine ⟨(RowN.new rfl).old _, ?_, ((Below.refl _ _).alloc (Nat.le_refl _) _).alloc (by rw [size_alloc]; omega) _⟩
  have h := RowC.new (fun _ => 0) (w.alloc (.cells (ints 256 fi) 22))
  rwa [size_alloc] at h
theorem load_cnt (w : World) (g : Nat) (C : Nat → Nat) (h : RowC g C w) : (loadVar 23 ⟨g, 0, none⟩).run Try.prog w = .ok (.agg (cnt C)) w := run_load22 w g C fun _ hi => h.cell hi

set_option maxHeartbeats 1000000 in
set_option maxRecDepth 100000 in
theorem Table_arg (fi : Nat → Int) (h : ¬ Okf fi) (w : World) :
    Calls Try.prog 8 #[.agg (ints 256 fi)] w fun e w' => e = .returned (.tuple #[.agg (cnt fun _ => 0), .string ⟨#[]⟩, .int .i64 1]) ∧ Below w.heap.size w w' := by
  have HA := Lib.hid (allowed_any fi false ⟨fun hh => absurd hh (by decide), fun h' => absurd h' h⟩)
  obtain ⟨wb, hwb⟩ : ∃ wb, wb = ((w.alloc (.cells (ints 256 fi) 22)).alloc (.cells (cnt fun _ => 0) 23)) := ⟨_, rfl⟩
  have HT : Hid (TSt w.heap.size fi w wb) := hwb ▸ TSt.start fi w
  have hz23 := zero23
  clear h
  go_enter Try.func8, Try.ntmps8
  go_upto_region 1 with fail
  rw [← hwb]
  clear hwb hz23
  go_wp2_with (first
    | refine wpList_load_row rfl 22 _ rfl w.heap.size rfl 22 _ (0, 0) _ HT.out.arg Try.underlying22 rfl (size22i _) ?_
    | (go_at_call 17; refine (HA.out wb).mono ?_; rintro e w1 ⟨rfl, hb1⟩; have HT1 := Lib.hid (HT.out.on hb1); clear hb1 HA)
    | refine wpList_zero23 rfl rfl ?_
    | refine wpList_store_row rfl 23 _ _ rfl (w.heap.size + 1) _ rfl rfl 23 _ HT1.out.res (size22 _) ((cnt_size _).trans (cnt_size _).symm) (cnt_one _) ?_)
  refine bodyPost_ret_by (results_row3 rfl _ _ (w.heap.size + 1) _ _ _ rfl rfl rfl (load_cnt _ _ _ (RowC.setRow (c' := fun _ => 0) HT1.out.res))) rfl ⟨rfl, below_setRow HT1.out.low (by omega) _⟩

set_option maxHeartbeats 1000000 in
set_option maxRecDepth 100000 in
theorem Table_none (fi : Nat → Int) (h : ∀ i, i < 256 → fi i = 0) (w : World) :
    Calls Try.prog 8 #[.agg (ints 256 fi)] w fun e w' => e = .returned (.tuple #[.agg (cnt fun _ => 0), .string ⟨#[]⟩, .int .i64 5]) ∧ Below w.heap.size w w' := by
  have HA := Lib.hid (allowed_any fi true ⟨fun _ i hi => by rw [h i hi]; omega, fun _ => rfl⟩)
  obtain ⟨wb, hwb⟩ : ∃ wb, wb = ((w.alloc (.cells (ints 256 fi) 22)).alloc (.cells (cnt fun _ => 0) 23)) := ⟨_, rfl⟩
  have HT : Hid (TSt w.heap.size fi w wb) := hwb ▸ TSt.start fi w
  have hz23 := zero23
  have hE : ∀ w, (Op.equalIn 10000 22 (.agg (ints 256 fi)) (.agg (ints 256 fun _ => 0))).run Try.prog w = .ok true w := fun w => run_equal_ints w 22 256 Try.underlying22 fi _ true (by
    symm
    rw [List.all_eq_true]
    intro i hi
    rw [h i (List.mem_range.1 hi)]
    rfl)
  have hG : Try.prog.eqGuardType Try.prog.depth 22 = false := by kernel_rfl
  clear h
  go_enter Try.func8, Try.ntmps8
  go_upto_region 1 with fail
  rw [← hwb]
  clear hwb hz23
  go_wp2_with (first
    | refine wpList_load_row rfl 22 _ rfl w.heap.size rfl 22 _ (0, 0) _ HT1.out.arg Try.underlying22 rfl (size22i _) ?_
    | refine wpList_load_row rfl 22 _ rfl w.heap.size rfl 22 _ (0, 0) _ HT.out.arg Try.underlying22 rfl (size22i _) ?_
    | (go_at_call 17; refine (HA.out wb).mono ?_; rintro e w1 ⟨rfl, hb1⟩; have HT1 := Lib.hid (HT.out.on hb1); clear hb1 HA)
    | refine wpList_zero23 rfl rfl ?_
    | refine wpList_zero22 rfl rfl ?_
    | refine wpList_store_row rfl 23 _ _ rfl (w.heap.size + 1) _ rfl rfl 23 _ HT1.out.res (size22 _) ((cnt_size _).trans (cnt_size _).symm) (cnt_one _) ?_)
  refine bodyPost_ret_by (results_row3 rfl _ _ (w.heap.size + 1) _ _ _ rfl rfl rfl (load_cnt _ _ _ (RowC.setRow (c' := fun _ => 0) HT1.out.res))) rfl ⟨rfl, below_setRow HT1.out.low (by omega) _⟩

set_option maxHeartbeats 1000000 in
set_option maxRecDepth 100000 in
theorem Table_yes (f : Nat → Nat) (fi : Nat → Int) (hfi : ∀ i, i < 256 → fi i = f i) (hf : ∀ i, i < 256 → f i ≤ 1099511627776) (y : Nat) (hy : y < 256) (hfy : f y ≠ 0) (C : Nat → Nat) (hC : C = tabC f) (S : ByteArray) (hS : S = ⟨(tabS f).toArray⟩) (w : World) :
    Calls Try.prog 8 #[.agg (ints 256 fi)] w fun e w' => e = .returned (.tuple #[.agg (cnt C), .string S, .int .i64 0]) ∧ Below w.heap.size w w' := by
  have HA := Lib.hid (allowed_any fi true ⟨fun _ i hi => by rw [hfi i hi]; have := hf i hi; omega, fun _ => rfl⟩)
  have HL := Lib.hid (lengths_any f fi hfi hf)
  have hll := lens_all f y hy hfy
  obtain ⟨T, hk, _⟩ := hll.kr
  obtain ⟨X, hX⟩ : ∃ X : Nat → Int, X = fun i => (lens f i : Int) := ⟨_, rfl⟩
  have HF : Hid (∀ W, Calls Try.prog 19 #[.agg (ints 257 X)] W fun e w' => e = .returned (.agg (cnt C)) ∧ Below W.heap.size W w') := fun W => by
    rw [hX, hC]; exact counts_any (lens f) (fun i _ => hll.le i) T hk _ rfl W
  have HG : Hid (∀ W, Calls Try.prog 20 #[.agg (ints 257 X)] W fun e w' => e = .returned (.string S) ∧ Below W.heap.size W w') := fun W => by
    rw [hX, hS]; exact symbols_any (lens f) (tab_come f y hy hfy) W
  rw [← hX] at HL
  obtain ⟨wb, hwb⟩ : ∃ wb, wb = ((w.alloc (.cells (ints 256 fi) 22)).alloc (.cells (cnt fun _ => 0) 23)) := ⟨_, rfl⟩
  have HT : Hid (TSt w.heap.size fi w wb) := hwb ▸ TSt.start fi w
  have hz23 := zero23
  have hz47 := zero47
  have hE : ∀ w, (Op.equalIn 10000 22 (.agg (ints 256 fi)) (.agg (ints 256 fun _ => 0))).run Try.prog w = .ok false w := fun w => run_equal_ints w 22 256 Try.underlying22 fi _ false (by
    symm
    rw [List.all_eq_false]
    refine ⟨y, List.mem_range.2 hy, ?_⟩
    rw [hfi y hy]
    simpa using hfy)
  have hEG : Try.prog.eqGuardType Try.prog.depth 22 = false := by kernel_rfl
  clear hfi hf hfy hy hll hk hX hC hS
  go_enter Try.func8, Try.ntmps8
  go_upto_region 1 with fail
  rw [← hwb]
  clear hwb hz23
  go_wp2_with (first
    | refine wpList_load_row rfl 22 _ rfl w.heap.size rfl 22 _ (0, 0) _ HT1.out.arg Try.underlying22 rfl (size22i _) ?_
    | refine wpList_load_row rfl 22 _ rfl w.heap.size rfl 22 _ (0, 0) _ HT.out.arg Try.underlying22 rfl (size22i _) ?_
    | (go_at_call 17; refine (HA.out wb).mono ?_; rintro e w1 ⟨rfl, hb1⟩; have HT1 := Lib.hid (HT.out.on hb1); clear hb1 HA)
    | (go_at_call 18; refine (HL.out w1).mono ?_; rintro e w2 ⟨rfl, hb2⟩; have HT2 := Lib.hid (HT1.out.on hb2); clear hb2 HL)
    | refine wpList_zero22 rfl rfl ?_
    | refine wpList_store_row rfl 47 _ _ rfl w2.heap.size _ rfl rfl 47 _ (heap_alloc_new _ _) (size47i _) ((ints_size _ _).trans (ints_size _ _).symm) (ints_one _ X) ?_)
  obtain ⟨w3, hw3⟩ : ∃ w3, w3 = (w2.alloc (Obj.cells (ints 257 fun x => 0) 47)).setRow w2.heap.size (ints 257 X) := ⟨_, rfl⟩
  rw [← hw3]
  have hlt := HT2.out.res.lt
  have hbx : Below w2.heap.size w2 w3 := by rw [hw3]; exact below_setRow ((Below.refl _ _).alloc (Nat.le_refl _) _) (Nat.le_refl _) _
  have HT3 := Lib.hid (HT2.out.on hbx)
  have HX : Hid (RowN 47 257 w2.heap.size X w3) := by rw [hw3]; exact RowN.setRow (f := fun _ => 0) (RowN.new rfl)
  clear hw3 hbx
  refine region_ret_at 16 17 18 19 3 4 5 2 w.heap.size w2.heap.size (w.heap.size + 1) X C S _ _ _ _ _ _ _ #[47] #[47] (by kernel_rfl) ?hdep rfl rfl rfl rfl rfl rfl rfl ⟨rfl, rfl, rfl, rfl, rfl, rfl, rfl⟩ ?d1 ?d3 ?d4 ?d5
    rfl rfl rfl rfl rfl rfl rfl (by decide) (by decide) (by simp [Act.put]) (by simp [Act.eval, Act.put]) (by simp [Act.eval, Act.put]) HX.out HT3.out.res (by omega) (by omega) HF.out HG.out ?fin
  case hdep => exact deps_of (by kernel_rfl)
  case d1 => exact ⟨{ on := 0, ground := .data }, by simp, rfl, rfl⟩
  case d3 => exact ⟨{ on := 2, ground := .data }, by simp, rfl, rfl⟩
  case d4 => exact ⟨{ on := 1, ground := .data }, by simp, rfl, rfl⟩
  case d5 => exact ⟨{ on := 3, ground := .data }, by simp, rfl, rfl⟩
  case fin =>
    intro v0 v1 v2 v3 w4 hr hb
    have HR4 := Lib.hid hr
    have HB4 := Lib.hid hb
    clear hr hb
    simp only [putA, Act.put, List.setIfInBounds_toArray, List.set_cons_zero, List.set_cons_succ]
    go_wp2_with fail
    refine bodyPost_ret_by (results_row3 rfl _ _ (w.heap.size + 1) _ _ _ rfl rfl rfl (load_cnt _ _ _ HR4.out)) rfl ⟨rfl, HT3.out.low.trans HB4.out⟩
end Go.Proofs.Ytlfnjdgfllhepaa
