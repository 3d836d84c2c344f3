/- The law's own example, and whether numbers may be: their walks. -/
import Derived.Test.YtlfnjdgfllhepaaBAwake
namespace Go.Proofs.Ytlfnjdgfllhepaa
open Go.RowKit

theorem Table_0 (w : World) : Calls Try.prog 8 #[.agg (ints 256 fun i => (f0 i : Int))] w fun e w' => e = .returned (.tuple #[.agg (cnt C0), .string ⟨#[9, 7]⟩, .int .i64 0]) ∧ Below w.heap.size w w' := by
  have h := Table_yes f0 (fun i => (f0 i : Int)) (fun _ _ => rfl) (fun i _ => by unfold f0; split <;> (try split) <;> omega) 7 (by omega) (by decide) (tabC f0) rfl ⟨#[9, 7]⟩ (by rw [tabS0]) w
  rwa [cnt0] at h
theorem Code_0 (g : Nat) (w : World) (h : Tbl g C0 ⟨#[9, 7]⟩ w) : Calls Try.prog 12 #[.pointer (some ⟨g, 0, none⟩), .int .i64 7] w fun e w' => e = .returned (.tuple #[.int .i64 2, .int .i64 2, .bool true]) ∧ w = w' := by
  have h1 := Code_yes g C0 (fun i => by unfold C0; split <;> omega) ⟨#[9, 7]⟩ right0 1 (by decide) w h
  rw [code0.1, code0.2] at h1
  exact h1
theorem New_0 (w : World) : Calls Try.prog 11 #[.agg (cnt C0), .string ⟨#[9, 7]⟩] w fun e w' => ∃ g, e = .returned (.tuple #[.pointer (some ⟨g, 0, none⟩), .int .i64 0]) ∧ Tbl g C0 ⟨#[9, 7]⟩ w' ∧ w.heap.size ≤ g ∧ Below w.heap.size w w' :=
  New_yes C0 (fun i => by unfold C0; split <;> omega) ⟨#[9, 7]⟩ (by decide) right0 w
theorem below_new (w : World) (o : Obj) : Below w.heap.size w (w.alloc o) := (Below.refl _ _).alloc (Nat.le_refl _) _

set_option maxHeartbeats 1000000 in
set_option maxRecDepth 100000 in
theorem awake_any (w : World) : Calls Try.prog 10 #[] w fun e w' => e = .returned (.bool true) ∧ Below w.heap.size w w' := by
  have hz22 := zero22
  have hz23 := zero23
  obtain ⟨wd, hwd⟩ : ∃ wd, wd = w.alloc (Obj.cells (((ints 256 fun _ => 0).setIfInBounds 7 (Value.int IntKind.i64 1)).setIfInBounds 9 (Value.int IntKind.i64 2)) 22) := ⟨_, rfl⟩
  have r0 : RowN 22 256 w.heap.size (fun _ => 0) (w.alloc (.cells (ints 256 fun _ => 0) 22)) := RowN.new rfl
  have HR : Hid (RowN 22 256 w.heap.size (fun i => (f0 i : Int)) wd) := by
    rw [hwd, ints_set, ints_set]
    refine (RowN.new rfl).congr fun i _ => ?_
    unfold f0 updI
    by_cases h1 : i = 9
    · subst h1; rfl
    · by_cases h2 : i = 7
      · subst h2; rfl
      · simp [h1, h2]
  have HB : Hid (Below w.heap.size w wd) := by rw [hwd]; exact below_new _ _
  have x0 := r0.free 7
  have x1 := r0.cell (i := 7) (by omega)
  have x2 := (r0.set 7 1).free 9
  have x3 := (r0.set 7 1).cell (i := 9) (by omega)
  rw [updI_ne _ _ (by omega)] at x3
  have HT := Lib.hid Table_0
  have HN := Lib.hid New_0
  have HC := Lib.hid Code_0
  clear r0
  go_enter Try.func10, Try.ntmps10
  go_upto_region 4 with fail
  rw [← hwd]
  clear hwd x0 x1 x2 x3 hz22
  go_wp2_with (first
    | refine wpList_load_row rfl 22 _ rfl w.heap.size rfl 22 _ (0, 0) _ HR.out Try.underlying22 rfl (size22i _) ?_
    | (go_at_call 8; refine (HT.out wd).mono ?_; rintro e w1 ⟨rfl, hb1⟩; have HB1 := Lib.hid (HB.out.trans (hb1.mono HB.out.size)); clear hb1 HT)
    | refine wpList_store_row rfl 23 _ _ rfl w1.heap.size _ rfl rfl 23 _ (heap_alloc_new _ _) (size22 _) ((cnt_size _).trans (cnt_size _).symm) (cnt_one _) ?_
    | refine wpList_load_row rfl 23 _ rfl w1.heap.size rfl 23 _ (0, 0) _ (RowC.setRow (c := fun _ => 0) (c' := C0) (heap_alloc_new _ _)) Try.underlying23 rfl (size22 _) ?_
    | (go_at_call 11; refine (HN.out _).mono ?_; rintro e w3 ⟨g, rfl, hg, hlt, hb3⟩; have HG := Lib.hid hg; have HB3 : Hid (Below w.heap.size w w3) := HB1.out.trans (Below.trans (Below.mono (below_setRow (below_new w1 _) (Nat.le_refl _) _) HB1.out.size) (hb3.mono (by rw [setRow_size, size_alloc]; exact Nat.le_succ_of_le HB1.out.size))); clear hb3 hg HN hlt)
    | (go_at_call 12; refine (HC.out g w3 HG.out).mono ?_; rintro e w4 ⟨rfl, rfl⟩; clear HC))
  go_ret
  exact ⟨rfl, HB3.out⟩
end Go.Proofs.Ytlfnjdgfllhepaa
