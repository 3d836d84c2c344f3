/- Arrays of int in memory. -/
import Derived.Test.YtlfnjdgfllhepaaHRow
import Derived.Test.YtlfnjdgfllhepaaBPlain
import Derived.Test.YtlfnjdgfllhepaaHBack0
namespace Go.Proofs.Ytlfnjdgfllhepaa
open Go.RowKit

/-- One place of a row of numbers is set. -/
def updI (f : Nat → Int) (i : Nat) (v : Int) : Nat → Int := fun j => if j = i then v else f j
theorem updI_same (f : Nat → Int) (i : Nat) (v : Int) : updI f i v i = v := if_pos rfl
theorem updI_ne (f : Nat → Int) {i j : Nat} (v : Int) (h : j ≠ i) : updI f i v j = f j := if_neg h
/-- The cells of an array of int. -/
def ints (N : Nat) (f : Nat → Int) : Array Value := ((List.range N).map fun i => Value.int .i64 (f i)).toArray
theorem ints_size (N : Nat) (f : Nat → Int) : (ints N f).size = N := by simp [ints]
theorem ints_at {N : Nat} (f : Nat → Int) {i : Nat} (h : i < N) : (ints N f)[i]? = some (.int .i64 (f i)) := by
  unfold ints
  rw [List.getElem?_toArray, List.getElem?_map, List.getElem?_range h]
  rfl
theorem ints_congr {N : Nat} {f g : Nat → Int} (h : ∀ i, i < N → f i = g i) : ints N f = ints N g := by
  unfold ints
  congr 1
  exact List.map_congr_left fun i hi => by rw [h i (List.mem_range.1 hi)]
theorem ints_one (N : Nat) (f : Nat → Int) : (ints N f).all (·.oneCell') = true := by
  rw [Array.all_eq_true_iff_forall_mem]
  intro x hx
  unfold ints at hx
  simp only [List.mem_toArray, List.mem_map] at hx
  obtain ⟨i, _, rfl⟩ := hx
  rfl
theorem ints_set (N : Nat) (f : Nat → Int) (p : Nat) (v : Int) : (ints N f).setIfInBounds p (.int .i64 v) = ints N (updI f p v) := by
  apply Array.ext_getElem?
  intro i
  rw [Array.getElem?_setIfInBounds]
  by_cases hi : i < N
  · rw [ints_at (updI f p v) hi, ints_size]
    by_cases hp : p = i
    · subst hp; simp [hi, updI_same]
    · rw [if_neg hp, ints_at f hi, updI_ne f v (Ne.symm hp)]
  · have h1 : (ints N (updI f p v))[i]? = none := by rw [Array.getElem?_eq_none]; rw [ints_size]; omega
    have h2 : (ints N f)[i]? = none := by rw [Array.getElem?_eq_none]; rw [ints_size]; omega
    rw [h1, h2]
    by_cases hp : p = i
    · subst hp; simp [ints_size, hi]
    · simp [hp]
/-- Block g is an array of N ints. -/
def RowN (t : TypeId) (N g : Nat) (f : Nat → Int) (w : World) : Prop := w.heap[g]? = some (.cells (ints N f) t (0, 0))
section
variable {t : TypeId} {N g : Nat} {f f' : Nat → Int} {w w' : World}
theorem RowN.cell (h : RowN t N g f w) {i : Nat} (hi : i < N) : w.cell? ⟨g, i, none⟩ = some (.int .i64 (f i)) := by
  rw [cell_of_row w g i _ t (0, 0) h, ints_at f hi]
theorem RowN.free (h : RowN t N g f w) (i : Nat) : w.frozen? ⟨g, i, none⟩ = false := frozen_of_row w g i _ t h
theorem RowN.lt (h : RowN t N g f w) : g < w.heap.size := (Array.getElem?_eq_some_iff.1 h).1
theorem RowN.on (h : RowN t N g f w) (hb : Below w.heap.size w w') : RowN t N g f w' := by
  unfold RowN; rw [hb.block g h.lt]; exact h
theorem RowN.onB {B : Nat} (h : RowN t N g f w) (hb : Below B w w') (hg : g < B) : RowN t N g f w' := by
  unfold RowN; rw [hb.block g hg]; exact h
theorem RowN.but {k : Nat} (h : RowN t N g f w) (hb : But k w w') (hg : g ≠ k) : RowN t N g f w' := by
  unfold RowN; rw [hb.block g hg h.lt]; exact h
theorem RowN.other (h : RowN t N g f w) {j i : Nat} (hj : g ≠ j) (v : Value) : RowN t N g f (w.setCell ⟨j, i, none⟩ v) := by
  unfold RowN; rw [heap_setCell_other w ⟨j, i, none⟩ g v hj]; exact h
theorem RowN.set (h : RowN t N g f w) (i : Nat) (v : Int) : RowN t N g (updI f i v) (w.setCell ⟨g, i, none⟩ (.int .i64 v)) := by
  unfold RowN; rw [heap_setCell_same w g i _ t _ h, ints_set]
theorem RowN.new {c : Array Value} (hc : c = ints N f) : RowN t N w.heap.size f (w.alloc (.cells c t)) := by
  subst hc; exact heap_alloc_new _ _
theorem RowN.old (h : RowN t N g f w) (o : Obj) : RowN t N g f (w.alloc o) := by
  unfold RowN; rw [Below.heap_alloc w o g h.lt]; exact h
theorem RowN.congr (h : RowN t N g f w) (he : ∀ i, i < N → f i = f' i) : RowN t N g f' w := by
  unfold RowN; rw [← ints_congr he]; exact h
theorem RowN.setRow (h : RowN t N g f w) : RowN t N g f' (w.setRow g (ints N f')) := setRow_heap w g _ _ t (0, 0) h
theorem RowN.otherRow (h : RowN t N g f w) {j : Nat} (hj : g ≠ j) (c : Array Value) : RowN t N g f (w.setRow j c) := by
  unfold RowN; rw [setRow_other w j g c hj]; exact h
theorem RowN.draw (h : RowN t N g f w) (n : Nat) : RowN t N g f (w.drewN n) := h
end
theorem size_alloc (w : World) (o : Obj) : (w.alloc o).heap.size = w.heap.size + 1 := by
  show (w.heap.push o).size = _
  simp
theorem below_drawn {B : Nat} {a w : World} (h : Below B a w) (n : Nat) : Below B a (w.drewN n) := ⟨h.os, h.tape, h.output, h.size, h.block⟩
theorem below_cell {B : Nat} {a w : World} (h : Below B a w) {g i : Nat} (hg : B ≤ g) (v : Value) : Below B a (w.setCell ⟨g, i, none⟩ v) := h.setCell (p := ⟨g, i, none⟩) hg v
theorem but_set {k : Nat} {a w : World} (h : But k a w) (c : Array Value) : But k a (w.setRow k c) :=
  ⟨h.os, h.tape, h.output, by rw [setRow_size]; exact h.size, fun j hj hl => by rw [setRow_other w k j c hj]; exact h.block j hj hl⟩
theorem size22i (f : Nat → Int) : (Try.prog.info? 22).map (·.size) = some (ints 256 f).size := by rw [ints_size]; kernel_rfl
theorem size47i (f : Nat → Int) : (Try.prog.info? 47).map (·.size) = some (ints 257 f).size := by rw [ints_size]; kernel_rfl
theorem zero_of {t : TypeId} {c : Array Value} (h : (Try.prog.info? t).map (·.zero) = some (some (.agg c))) (w : World) : (zeroValue t).run Try.prog w = .ok (.agg c) w := by
  cases hi : Try.prog.info? t with
  | none => rw [hi] at h; cases h
  | some i =>
    rw [hi] at h
    have hz : i.zero = some (.agg c) := Option.some.inj h
    simp [zeroValue, typeInfo, hi, hz]
theorem zero22 (w : World) : (zeroValue 22).run Try.prog w = .ok (.agg (ints 256 fun _ => 0)) w := zero_of (by kernel_rfl) w
theorem zero47 (w : World) : (zeroValue 47).run Try.prog w = .ok (.agg (ints 257 fun _ => 0)) w := zero_of (by kernel_rfl) w
theorem zero61 (w : World) : (zeroValue 61).run Try.prog w = .ok (.agg (ints 771 fun _ => 0)) w := zero_of (by kernel_rfl) w
end Go.Proofs.Ytlfnjdgfllhepaa
