/- (Layer 4.) Walks over tables of uint16: Zig, Back. -/
import Derived.Test.YtfohgocdabgbgaaDoorZPlain
import Derived.BigCall
import Derived.WalkSpells
import Derived.WalkLawsBesides
import Derived.Lib.OwnKind
import Derived.Lib.Hide
import Derived.Deep.QuietTactic
import Derived.BigQuiet
import Derived.Outline
import Derived.Laws.Rows
namespace Go.Proofs.YtfohgocdabgbgaaDoor
open Go.RowKit

/-- The table of the zigzag lies in its variable. -/
def Tab (w : World) : Prop := 0 < w.heap.size ∧ ∀ k, k < 64 → w.cell? ⟨0, k, none⟩ = some (.int .u8 (zz k : Nat))
theorem Tab.on {w w' : World} (h : Tab w) (hb : Below w.heap.size w w') : Tab w' :=
  ⟨Nat.lt_of_lt_of_le h.1 hb.size, fun k hk => by rw [hb.cell (p := ⟨0, k, none⟩) h.1]; exact h.2 k hk⟩
theorem Tab.over {w w' : World} (h : Tab w) (hb : Below w.heap.size w w') {k : Nat} (hk : k < 64) : w'.cell? ⟨0, k, none⟩ = some (.int .u8 (zz k : Nat)) := (h.on hb).2 k hk

/-- A block lies in a row of memory. -/
def RowZ (t : TypeId) (K : IntKind) (g : Nat) (f : Nat → Int) (w : World) : Prop := w.heap[g]? = some (.cells (blk K f) t (0, 0))
theorem RowZ.cell {t : TypeId} {K : IntKind} {g : Nat} {f : Nat → Int} {w : World} (h : RowZ t K g f w) {i : Nat} (hi : i < 64) : w.cell? ⟨g, i, none⟩ = some (.int K (f i)) := by
  rw [cell_of_row w g i _ t (0, 0) h, blk_at K f i hi]
theorem RowZ.free {t : TypeId} {K : IntKind} {g : Nat} {f : Nat → Int} {w : World} (h : RowZ t K g f w) (i : Nat) : w.frozen? ⟨g, i, none⟩ = false := frozen_of_row w g i _ t h
theorem RowZ.lt {t : TypeId} {K : IntKind} {g : Nat} {f : Nat → Int} {w : World} (h : RowZ t K g f w) : g < w.heap.size := (Array.getElem?_eq_some_iff.1 h).1
theorem RowZ.on {t : TypeId} {K : IntKind} {g : Nat} {f : Nat → Int} {w w' : World} (h : RowZ t K g f w) (hb : Below w.heap.size w w') : RowZ t K g f w' := by
  unfold RowZ; rw [hb.block g h.lt]; exact h
theorem RowZ.other {t : TypeId} {K : IntKind} {g : Nat} {f : Nat → Int} {w : World} (h : RowZ t K g f w) {j i : Nat} (hj : g ≠ j) (v : Value) : RowZ t K g f (w.setCell ⟨j, i, none⟩ v) := by
  unfold RowZ; rw [heap_setCell_other w ⟨j, i, none⟩ g v hj]; exact h
theorem RowZ.set {t : TypeId} {K : IntKind} {g : Nat} {f f' : Nat → Int} {w : World} (h : RowZ t K g f w) {i : Nat} {v : Int} (he : (blk K f).setIfInBounds i (.int K v) = blk K f') : RowZ t K g f' (w.setCell ⟨g, i, none⟩ (.int K v)) := by
  unfold RowZ; rw [heap_setCell_same w g i _ t _ h, he]
theorem RowZ.new {t : TypeId} {K : IntKind} {f : Nat → Int} {w : World} {c : Array Value} (hc : c = blk K f) : RowZ t K w.heap.size f (w.alloc (.cells c t)) := by
  subst hc; exact heap_alloc_new _ _
theorem RowZ.old {t : TypeId} {K : IntKind} {g : Nat} {f : Nat → Int} {w : World} (h : RowZ t K g f w) (o : Obj) : RowZ t K g f (w.alloc o) := by
  unfold RowZ; rw [Below.heap_alloc w o g h.lt]; exact h
theorem RowZ.setRow {t : TypeId} {K : IntKind} {g : Nat} {f f' : Nat → Int} {w : World} (h : RowZ t K g f w) : RowZ t K g f' (w.setRow g (blk K f')) := setRow_heap w g _ _ t (0, 0) h
theorem RowZ.otherRow {t : TypeId} {K : IntKind} {g : Nat} {f : Nat → Int} {w : World} (h : RowZ t K g f w) {j : Nat} (hj : g ≠ j) (c : Array Value) : RowZ t K g f (w.setRow j c) := by
  unfold RowZ; rw [setRow_other w j g c hj]; exact h
theorem below_setRow {B : Nat} {a w : World} (h : Below B a w) {g : Nat} (hg : B ≤ g) (c : Array Value) : Below B a (w.setRow g c) :=
  ⟨h.os, h.tape, h.output, by rw [setRow_size]; exact h.size, fun k hk => by rw [setRow_other w g k c (by omega)]; exact h.block k hk⟩

/-- Three new rows: the argument, the result, and what is being filled. -/
structure St (t : TypeId) (K : IntKind) (f c : Nat → Int) (w wr : World) : Prop where
  arg : RowZ t K w.heap.size f wr
  res : RowZ t K (w.heap.size + 1) (fun _ => 0) wr
  out : RowZ t K (w.heap.size + 1 + 1) c wr
  low : Below w.heap.size w wr
theorem St.start {t : TypeId} {K : IntKind} {f c : Nat → Int} {w : World} {Z Z' : Array Value} (hZ : Z = blk K fun _ => 0) (hZ' : Z' = blk K fun _ => 0) (hc : blk K c = blk K fun _ => 0) : St t K f c w (((w.alloc (.cells (blk K f) t)).alloc (.cells Z t)).alloc (.cells Z' t)) := by
  refine ⟨((RowZ.new rfl).old _).old _, ?_, ?_, ?_⟩
  · have h := (RowZ.new (t := t) (w := w.alloc (.cells (blk K f) t)) hZ).old (.cells Z' t)
    rwa [size_alloc] at h
  · have h := RowZ.new (t := t) (w := (w.alloc (.cells (blk K f) t)).alloc (.cells Z t)) (hZ'.trans hc.symm)
    rwa [size_alloc, size_alloc] at h
  · exact (((Below.refl _ _).alloc (Nat.le_refl _) _).alloc (by rw [size_alloc]; omega) _).alloc (by rw [size_alloc, size_alloc]; omega) _
theorem St.set {t : TypeId} {K : IntKind} {f c c' : Nat → Int} {w wr : World} (h : St t K f c w wr) {i : Nat} {v : Int} (he : (blk K c).setIfInBounds i (.int K v) = blk K c') : St t K f c' w (wr.setCell ⟨w.heap.size + 1 + 1, i, none⟩ (.int K v)) :=
  ⟨h.arg.other (by omega) _, h.res.other (by omega) _, h.out.set he, h.low.setCell (p := ⟨_, _, none⟩) (by show _ ≤ w.heap.size + 1 + 1; omega) _⟩

theorem St.drew {t : TypeId} {K : IntKind} {f c : Nat → Int} {w wr : World} (h : St t K f c w wr) : St t K f c w wr.drew := ⟨h.arg, h.res, h.out, h.low.drew⟩

theorem size64 : (Tryd.prog.info? 64).map (·.size) = some 64 := by kernel_rfl
theorem sizeB64 (f : Nat → Int) : (Tryd.prog.info? 64).map (·.size) = some (blk .u16 f).size := by rw [blk_size]; exact size64

set_option maxHeartbeats 1000000 in
theorem ZigU (f : Nat → Int) (w : World) (hT : Tab w) : Calls Tryd.prog 52 #[.agg (blk .u16 f)] w fun e w' => e = .returned (.agg (blk .u16 fun k => f (zz k))) ∧ Below w.heap.size w w' := by
  have HT := Lib.hid hT
  clear hT
  go_enter Tryd.func52, Tryd.ntmps52
  go_wp2
  go_loopw [5] (fun i wr => ∃ k : Nat, i = .int .i64 k ∧ k ≤ 64 ∧ St 64 .u16 f (mix id (fun k => f (zz k)) k) w wr) (fun i _ => 64 - (intOf i).toNat)
  case atStart => exact ⟨0, rfl, Nat.zero_le _, St.start (by kernel_rfl) (by kernel_rfl) (mix_zero _ _ _)⟩
  case round =>
    obtain ⟨k, rfl, hk, hS⟩ := hrel
    have HS := Lib.hid hS
    clear hS
    by_cases hlt : k < 64
    · have x0 := HT.out.over HS.out.low hlt
      have hp := zz_lt k hlt
      have x1 := HS.out.arg.cell hp
      have x2 := HS.out.out.cell hlt
      have x3 := HS.out.out.free k
      have HM := Lib.hid (mix_step .u16 id (fun k => f (zz k)) k k (f (zz k)) rfl fun i _ => id_iff k i)
      generalize zz k = p at x0 hp x1 HM
      go_wp2
      go_roundw
      case rel => exact ⟨k + 1, by go_num, by omega, HS.out.set HM.out⟩
      case measure => simp [intOf]; omega
    · obtain rfl : k = 64 := by omega
      have HR : Hid (RowZ 64 .u16 (w.heap.size + 1 + 1) (fun k => f (zz k)) wr) := by
        have := HS.out.out
        unfold RowZ at this
        rw [mix_all .u16 id _ fun i hi => hi] at this
        exact this
      go_wp2_with (first
        | refine wpList_load_row rfl 64 _ rfl (w.heap.size + 1 + 1) rfl 64 _ (0, 0) _ HR.out Tryd.underlying64 rfl (sizeB64 _) ?_
        | refine wpList_store_row rfl 64 _ _ rfl (w.heap.size + 1) _ rfl rfl 64 _ HS.out.res (sizeB64 _) ((blk_size _ _).trans (blk_size _ _).symm) (blk_one _ _) ?_)
      refine bodyPost_ret_by (results_cell_row rfl _ _ (w.heap.size + 1) 64 _ (0, 0) _ rfl (RowZ.setRow HS.out.res) Tryd.underlying64 rfl (sizeB64 _)) rfl ⟨rfl, below_setRow HS.out.low (Nat.le_succ _) _⟩
set_option maxHeartbeats 1000000 in
theorem BackU (f : Nat → Int) (w : World) (hT : Tab w) : Calls Tryd.prog 80 #[.agg (blk .u16 f)] w fun e w' => e = .returned (.agg (blk .u16 fun i => f (sp i))) ∧ Below w.heap.size w w' := by
  have HT := Lib.hid hT
  clear hT
  go_enter Tryd.func80, Tryd.ntmps80
  go_wp2
  go_loopw [5] (fun i wr => ∃ k : Nat, i = .int .i64 k ∧ k ≤ 64 ∧ St 64 .u16 f (mix sp (fun i => f (sp i)) k) w wr) (fun i _ => 64 - (intOf i).toNat)
  case atStart => exact ⟨0, rfl, Nat.zero_le _, St.start (by kernel_rfl) (by kernel_rfl) (mix_zero _ _ _)⟩
  case round =>
    obtain ⟨k, rfl, hk, hS⟩ := hrel
    have HS := Lib.hid hS
    clear hS
    by_cases hlt : k < 64
    · have x0 := HT.out.over HS.out.low hlt
      have hp := zz_lt k hlt
      have x1 := HS.out.arg.cell hlt
      have x2 := HS.out.out.cell hp
      have x3 := HS.out.out.free (zz k)
      have HM := Lib.hid (mix_step .u16 sp (fun i => f (sp i)) k (zz k) (f k) (by rw [sp_zz k hlt]) (sp_iff k hlt))
      generalize zz k = p at x0 hp x2 x3 HM
      go_wp2
      go_region
      all_goals
        go_wp2
        go_roundw
        case rel => exact ⟨k + 1, by go_num, by omega, (HS.out.set HM.out).drew⟩
        case measure => simp [intOf]; omega
    · obtain rfl : k = 64 := by omega
      have HR : Hid (RowZ 64 .u16 (w.heap.size + 1 + 1) (fun i => f (sp i)) wr) := by
        have := HS.out.out
        unfold RowZ at this
        rw [mix_all .u16 sp _ sp_lt] at this
        exact this
      go_wp2_with (first
        | refine wpList_load_row rfl 64 _ rfl (w.heap.size + 1 + 1) rfl 64 _ (0, 0) _ HR.out Tryd.underlying64 rfl (sizeB64 _) ?_
        | refine wpList_store_row rfl 64 _ _ rfl (w.heap.size + 1) _ rfl rfl 64 _ HS.out.res (sizeB64 _) ((blk_size _ _).trans (blk_size _ _).symm) (blk_one _ _) ?_)
      refine bodyPost_ret_by (results_cell_row rfl _ _ (w.heap.size + 1) 64 _ (0, 0) _ rfl (RowZ.setRow HS.out.res) Tryd.underlying64 rfl (sizeB64 _)) rfl ⟨rfl, below_setRow HS.out.low (Nat.le_succ _) _⟩

end Go.Proofs.YtfohgocdabgbgaaDoor
