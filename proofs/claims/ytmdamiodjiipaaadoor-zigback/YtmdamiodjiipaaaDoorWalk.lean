/- Walks over blocks of int16: Zig. -/
import Derived.Test.YtmdamiodjiipaaaDoorPlain
import Derived.BigCall
import Derived.WalkSpells
import Derived.WalkLawsBesides
import Derived.Lib.OwnKind
import Derived.Lib.Hide
import Derived.Deep.QuietTactic
import Derived.BigQuiet
import Derived.Outline
import Derived.Laws.Rows
namespace Go.Proofs.YtmdamiodjiipaaaDoor
open Go.RowKit

theorem ret_bool {a b : Bool} (h : a = b) : Ending.returned (.bool a) = .returned (.bool b) := by rw [h]
theorem ret_agg {a b : Array Value} (h : a = b) : Ending.returned (.agg a) = .returned (.agg b) := by rw [h]

/-- The table of the zigzag lies in its variable. -/
def Tab (w : World) : Prop := 0 < w.heap.size ∧ ∀ k, k < 64 → w.cell? ⟨0, k, none⟩ = some (.int .u8 (zz k : Nat))
theorem Tab.on {w w' : World} (h : Tab w) (hb : Below w.heap.size w w') : Tab w' :=
  ⟨Nat.lt_of_lt_of_le h.1 hb.size, fun k hk => by rw [hb.cell (p := ⟨0, k, none⟩) h.1]; exact h.2 k hk⟩
theorem Tab.over {w w' : World} (h : Tab w) (hb : Below w.heap.size w w') {k : Nat} (hk : k < 64) : w'.cell? ⟨0, k, none⟩ = some (.int .u8 (zz k : Nat)) := (h.on hb).2 k hk

/-- A block lies in a row of memory. -/
def Row (t : TypeId) (K : IntKind) (g : Nat) (f : Nat → Int) (w : World) : Prop := w.heap[g]? = some (.cells (blk K f) t (0, 0))
theorem Row.cell {t : TypeId} {K : IntKind} {g : Nat} {f : Nat → Int} {w : World} (h : Row t K g f w) {i : Nat} (hi : i < 64) : w.cell? ⟨g, i, none⟩ = some (.int K (f i)) := by
  rw [cell_of_row w g i _ t (0, 0) h, blk_at K f i hi]
theorem Row.free {t : TypeId} {K : IntKind} {g : Nat} {f : Nat → Int} {w : World} (h : Row t K g f w) (i : Nat) : w.frozen? ⟨g, i, none⟩ = false := frozen_of_row w g i _ t h
theorem Row.lt {t : TypeId} {K : IntKind} {g : Nat} {f : Nat → Int} {w : World} (h : Row t K g f w) : g < w.heap.size := (Array.getElem?_eq_some_iff.1 h).1
theorem Row.on {t : TypeId} {K : IntKind} {g : Nat} {f : Nat → Int} {w w' : World} (h : Row t K g f w) (hb : Below w.heap.size w w') : Row t K g f w' := by
  unfold Row; rw [hb.block g h.lt]; exact h
theorem Row.other {t : TypeId} {K : IntKind} {g : Nat} {f : Nat → Int} {w : World} (h : Row t K g f w) {j i : Nat} (hj : g ≠ j) (v : Value) : Row t K g f (w.setCell ⟨j, i, none⟩ v) := by
  unfold Row; rw [heap_setCell_other w ⟨j, i, none⟩ g v hj]; exact h
theorem Row.set {t : TypeId} {K : IntKind} {g : Nat} {f f' : Nat → Int} {w : World} (h : Row t K g f w) {i : Nat} {v : Int} (he : (blk K f).setIfInBounds i (.int K v) = blk K f') : Row t K g f' (w.setCell ⟨g, i, none⟩ (.int K v)) := by
  unfold Row; rw [heap_setCell_same w g i _ t _ h, he]
theorem Row.new {t : TypeId} {K : IntKind} {f : Nat → Int} {w : World} {c : Array Value} (hc : c = blk K f) : Row t K w.heap.size f (w.alloc (.cells c t)) := by
  subst hc; exact heap_alloc_new _ _
theorem Row.old {t : TypeId} {K : IntKind} {g : Nat} {f : Nat → Int} {w : World} (h : Row t K g f w) (o : Obj) : Row t K g f (w.alloc o) := by
  unfold Row; rw [Below.heap_alloc w o g h.lt]; exact h
theorem Row.setRow {t : TypeId} {K : IntKind} {g : Nat} {f f' : Nat → Int} {w : World} (h : Row t K g f w) : Row t K g f' (w.setRow g (blk K f')) := setRow_heap w g _ _ t (0, 0) h
theorem Row.otherRow {t : TypeId} {K : IntKind} {g : Nat} {f : Nat → Int} {w : World} (h : Row t K g f w) {j : Nat} (hj : g ≠ j) (c : Array Value) : Row t K g f (w.setRow j c) := by
  unfold Row; rw [setRow_other w j g c hj]; exact h
theorem below_setRow {B : Nat} {a w : World} (h : Below B a w) {g : Nat} (hg : B ≤ g) (c : Array Value) : Below B a (w.setRow g c) :=
  ⟨h.os, h.tape, h.output, by rw [setRow_size]; exact h.size, fun k hk => by rw [setRow_other w g k c (by omega)]; exact h.block k hk⟩

/-- Three new rows: the argument, the result, and what is being filled. -/
structure St (t : TypeId) (K : IntKind) (f c : Nat → Int) (w wr : World) : Prop where
  arg : Row t K w.heap.size f wr
  res : Row t K (w.heap.size + 1) (fun _ => 0) wr
  out : Row t K (w.heap.size + 1 + 1) c wr
  low : Below w.heap.size w wr
theorem size_alloc (w : World) (o : Obj) : (w.alloc o).heap.size = w.heap.size + 1 := by
  show (w.heap.push o).size = _
  simp
theorem St.start {t : TypeId} {K : IntKind} {f c : Nat → Int} {w : World} {Z Z' : Array Value} (hZ : Z = blk K fun _ => 0) (hZ' : Z' = blk K fun _ => 0) (hc : blk K c = blk K fun _ => 0) : St t K f c w (((w.alloc (.cells (blk K f) t)).alloc (.cells Z t)).alloc (.cells Z' t)) := by
  refine ⟨((Row.new rfl).old _).old _, ?_, ?_, ?_⟩
  · have h := (Row.new (t := t) (w := w.alloc (.cells (blk K f) t)) hZ).old (.cells Z' t)
    rwa [size_alloc] at h
  · have h := Row.new (t := t) (w := (w.alloc (.cells (blk K f) t)).alloc (.cells Z t)) (hZ'.trans hc.symm)
    rwa [size_alloc, size_alloc] at h
  · exact (((Below.refl _ _).alloc (Nat.le_refl _) _).alloc (by rw [size_alloc]; omega) _).alloc (by rw [size_alloc, size_alloc]; omega) _
theorem St.set {t : TypeId} {K : IntKind} {f c c' : Nat → Int} {w wr : World} (h : St t K f c w wr) {i : Nat} {v : Int} (he : (blk K c).setIfInBounds i (.int K v) = blk K c') : St t K f c' w (wr.setCell ⟨w.heap.size + 1 + 1, i, none⟩ (.int K v)) :=
  ⟨h.arg.other (by omega) _, h.res.other (by omega) _, h.out.set he, h.low.setCell (p := ⟨_, _, none⟩) (by show _ ≤ w.heap.size + 1 + 1; omega) _⟩

theorem size23 : (Tryd.prog.info? 23).map (·.size) = some 64 := by kernel_rfl
theorem sizeB23 (f : Nat → Int) : (Tryd.prog.info? 23).map (·.size) = some (blk .i16 f).size := by rw [blk_size]; exact size23

set_option maxHeartbeats 1000000 in
theorem Zig16 (f : Nat → Int) (w : World) (hT : Tab w) : Calls Tryd.prog 11 #[.agg (blk .i16 f)] w fun e w' => e = .returned (.agg (blk .i16 fun k => f (zz k))) ∧ Below w.heap.size w w' := by
  have HT := Lib.hid hT
  clear hT
  go_enter Tryd.func11, Tryd.ntmps11
  go_wp2
  go_loopw [5] (fun i wr => ∃ k : Nat, i = .int .i64 k ∧ k ≤ 64 ∧ St 23 .i16 f (mix id (fun k => f (zz k)) k) w wr) (fun i _ => 64 - (intOf i).toNat)
  case atStart => exact ⟨0, rfl, Nat.zero_le _, St.start (by kernel_rfl) (by kernel_rfl) (mix_zero _ _ _)⟩
  case round =>
    obtain ⟨k, rfl, hk, hS⟩ := hrel
    have HS := Lib.hid hS
    clear hS
    by_cases hlt : k < 64
    · have x0 := HT.out.over HS.out.low hlt
      have hp := zz_lt k hlt
      have x1 := HS.out.arg.cell hp
      have x2 := HS.out.out.cell hlt
      have x3 := HS.out.out.free k
      have HM := Lib.hid (mix_step .i16 id (fun k => f (zz k)) k k (f (zz k)) rfl fun i _ => id_iff k i)
      generalize zz k = p at x0 hp x1 HM
      go_wp2
      go_roundw
      case rel => exact ⟨k + 1, by go_num, by omega, HS.out.set HM.out⟩
      case measure => simp [intOf]; omega
    · obtain rfl : k = 64 := by omega
      have HR : Hid (Row 23 .i16 (w.heap.size + 1 + 1) (fun k => f (zz k)) wr) := by
        have := HS.out.out
        unfold Row at this
        rw [mix_all .i16 id _ fun i hi => hi] at this
        exact this
      go_wp2_with (first
        | refine wpList_load_row rfl 23 _ rfl (w.heap.size + 1 + 1) rfl 23 _ (0, 0) _ HR.out Tryd.underlying23 rfl (sizeB23 _) ?_
        | refine wpList_store_row rfl 23 _ _ rfl (w.heap.size + 1) _ rfl rfl 23 _ HS.out.res (sizeB23 _) ((blk_size _ _).trans (blk_size _ _).symm) (blk_one _ _) ?_)
      refine bodyPost_ret_by (results_cell_row rfl _ _ (w.heap.size + 1) 23 _ (0, 0) _ rfl (Row.setRow HS.out.res) Tryd.underlying23 rfl (sizeB23 _)) rfl ⟨rfl, below_setRow HS.out.low (Nat.le_succ _) _⟩
end Go.Proofs.YtmdamiodjiipaaaDoor
