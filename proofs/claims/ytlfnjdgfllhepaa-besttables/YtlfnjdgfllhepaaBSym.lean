/- The program's symbols. -/
import Derived.Test.YtlfnjdgfllhepaaBClos
import Derived.Test.YtlfnjdgfllhepaaBSymP
namespace Go.Proofs.Ytlfnjdgfllhepaa
open Go.RowKit Go.Sort Go.Shelf

def encB (b : UInt8) : Value := .int .u8 (b.toNat : Nat)
theorem encB_one : OneCell encB := fun _ => rfl
theorem sort_row (enc : UInt8 → Value) (w : World) (g n : Nat) (d : Array UInt8) (os : Array Obj) (B : Nat) (hB : B ≠ g) (hlt : B < w.heap.size) : (sortWorld enc w g 0 n d os).heap[B]? = w.heap[B]? := by
  unfold sortWorld
  rw [heap_grow_old _ _ (by simpa using hlt)]
  simp [putRow, mapBlock, Sort.ahead, Array.getElem?_modify, Ne.symm hB]
theorem cmpL (B : Nat) (L : Nat → Nat) (g size : Nat) (w : World) (hB : B ≠ g) (hw : RowN 47 257 B (fun i => (L i : Int)) w) :
    CmpLays1 Try.prog 32 #[.pointer (some ⟨B, 0, none⟩)] encB (cfL L) g 0 size w := by
  intro m os dk _ x y
  have hx := x.toNat_lt
  have hy := y.toNat_lt
  have hr : RowN 47 257 B (fun i => (L i : Int)) (sortWorld encB w g 0 m dk os) := by
    unfold RowN
    rw [sort_row encB w g m dk os B hB hw.lt]
    exact hw
  exact closure_any B L x.toNat y.toNat (by omega) (by omega) _ _ _ rfl rfl rfl (sortWorld encB w g 0 m dk os) fun i hi => hr.cell hi
theorem encL_eq (l : List UInt8) : l.map encB = Lib.byteCells l := rfl
theorem holdsB {w : World} {g : Nat} {cur : Array Value} {l : List UInt8} (hb : w.heap[g]? = some (.cells cur 5 (0, 0))) (ht : cur.toList.take l.length = l.map encB) : Holds encB w g 0 l.toArray := by
  intro j hj
  have hj' : j < l.length := by simpa using hj
  refine ⟨?_, by simp [World.frozen?, hb]⟩
  have h1 : (cur.toList.take l.length)[j]? = (l.map encB)[j]? := by rw [ht]
  rw [List.getElem?_take_of_lt hj'] at h1
  simp only [World.cell?, hb, Nat.zero_add]
  simp only [Option.isSome_none, Bool.false_eq_true, if_false]
  rw [← Array.getElem?_toList, h1]
  simp [hj']
theorem heapB {w : World} {g n : Nat} {os : Array Obj} {cur : Array Value} (d : Array UInt8) (hb : w.heap[g]? = some (.cells cur 5 (0, 0))) :
    (sortWorld encB w g 0 n d os).heap[g]? = some (.cells (putCells encB 0 d cur) 5 (0, 0)) := by
  have hg : g < w.heap.size := (Array.getElem?_eq_some_iff.1 hb).1
  unfold sortWorld
  rw [heap_grow_old _ _ (by simpa using hg)]
  simp [putRow, mapBlock, Sort.ahead, Array.getElem?_modify, hb, onCells]
theorem takeB (cur : Array Value) (ts : List UInt8) (h : ts.length ≤ cur.size) : (putCells encB 0 ts.toArray cur).toList.take ts.length = ts.map encB := by
  apply List.ext_getElem?
  intro j
  by_cases hj : j < ts.length
  · rw [List.getElem?_take_of_lt hj, Array.getElem?_toList]
    simp [putCells, hj, show j < cur.size by omega]
  · rw [List.getElem?_take_eq_none (by omega), List.getElem?_eq_none (by simp; omega)]
theorem below_sort {B : Nat} {w : World} {g n : Nat} {os : Array Obj} {d : Array UInt8} (h : B ≤ g) (hB : B ≤ w.heap.size) : Below B w (sortWorld encB w g 0 n d os) := by
  refine ⟨rfl, rfl, rfl, by simp [sortWorld, Sort.ahead], fun k hk => ?_⟩
  exact sort_row encB w g n d os k (by omega) (by omega)
/-- The sort of a slice of the call's own. -/
theorem sort_own (B0 B : Nat) (L : Nat → Nat) (v : Value) (w : World) (hv : Owns B v (come L 256) w) (hne : come L 256 ≠ []) (hB : B0 < B) (hw : RowN 47 257 B0 (fun i => (L i : Int)) w) (hsz : B ≤ w.heap.size) :
    Calls Try.prog 31 #[v, .func (.func 32) #[] #[.pointer (some ⟨B0, 0, none⟩)]] w fun e w' => e = .returned (.tuple #[]) ∧ Owns B v (syms L) w' ∧ Below B w w' := by
  have hlen : (come L 256).length ≠ 0 := fun h => hne (List.eq_nil_of_length_eq_zero h)
  rcases hv.2 with ⟨_, h0⟩ | ⟨g, cap, cur, rfl, hb, hh, hn, hm, hs, ht⟩
  · exact absurd h0 hlen
  have eg : ∀ args w, (callFunc 32 args).run Try.prog w = .ok (.enter 32 args) w := enters_of Try.func32 (by kernel_rfl) rfl
  rw [Nat.mul_one] at ht
  have hH : Holds encB w g 0 (come L 256).toArray := holdsB hh ht
  have hS := Any.slices_SortFunc_total Try.sortL encB encB_one (cfL L) (swoL L) 32 #[.pointer (some ⟨B0, 0, none⟩)] g 0 cap (come L 256).toArray w eg (cmpL B0 L g _ w (by omega) hw) hH (Array.getElem?_eq_some_iff.1 hh).1 (by
    have := come_length L 256
    simp; omega) (totL L)
  change Calls Try.prog 31 _ _ _ at hS
  rw [List.size_toArray] at hS
  refine hS.mono ?_
  rintro e w' ⟨rfl, n, os, rfl⟩
  refine ⟨rfl, ?_, below_sort hb hsz⟩
  have hl := syms_length L
  unfold Owns
  rw [hl]
  refine ⟨by rw [Lib.byteCells_length, hl, Nat.mul_one], .inr ⟨g, cap, _, rfl, hb, heapB _ hh, hn, hm, ?_, ?_⟩⟩
  · simp [putCells, hs]
  · rw [Nat.mul_one, ← hl, ← encL_eq]
    exact takeB cur (syms L) (by omega)
end Go.Proofs.Ytlfnjdgfllhepaa
