/- The program's join: two chains of symbols become one. -/
import Derived.Test.YtlfnjdgfllhepaaBLeast
namespace Go.Proofs.Ytlfnjdgfllhepaa
open Go.RowKit

/-- The symbols of a group, one behind the other. -/
structure Path (nx : Nat → Option Nat) (a : Nat) (l : List Nat) : Prop where
  hd : l[0]? = some a
  nxt : ∀ j x, l[j]? = some x → nx x = l[j + 1]?
/-- The groups in memory. -/
structure Gs (k : Nat) (W : Nat → Nat) (nx : Nat → Option Nat) (L : Nat → Nat) (w : World) : Prop where
  row : RowN 61 771 k (fun i => if i < 257 then (W i : Int) else if i < 514 then oi (nx (i - 257)) else (L (i - 514) : Int)) w
section
variable {k : Nat} {W : Nat → Nat} {nx : Nat → Option Nat} {L : Nat → Nat} {w w' : World}
theorem Gs.cW (h : Gs k W nx L w) {i : Nat} (hi : i < 257) : w.cell? ⟨k, i, none⟩ = some (.int .i64 (W i)) := by
  rw [h.row.cell (i := i) (by omega), if_pos hi]
theorem Gs.cN (h : Gs k W nx L w) {i : Nat} (hi : i < 257) : w.cell? ⟨k, 257 + i, none⟩ = some (.int .i64 (oi (nx i))) := by
  rw [h.row.cell (i := 257 + i) (by omega), if_neg (by omega), if_pos (by omega), Nat.add_sub_cancel_left]
theorem Gs.cL (h : Gs k W nx L w) {i : Nat} (hi : i < 257) : w.cell? ⟨k, 514 + i, none⟩ = some (.int .i64 (L i)) := by
  rw [h.row.cell (i := 514 + i) (by omega), if_neg (by omega), if_neg (by omega), Nat.add_sub_cancel_left]
theorem Gs.free (h : Gs k W nx L w) (i : Nat) : w.frozen? ⟨k, i, none⟩ = false := h.row.free i
theorem Gs.lt (h : Gs k W nx L w) : k < w.heap.size := h.row.lt
theorem Gs.on (h : Gs k W nx L w) (hb : Below w.heap.size w w') : Gs k W nx L w' := ⟨h.row.on hb⟩
theorem Gs.draw (h : Gs k W nx L w) (n : Nat) : Gs k W nx L (w.drewN n) := ⟨h.row⟩
theorem Gs.setW (h : Gs k W nx L w) {i : Nat} (hi : i < 257) (v : Nat) : Gs k (upd W i v) nx L (w.setCell ⟨k, i, none⟩ (.int .i64 v)) := by
  refine ⟨(h.row.set i v).congr fun j hj => ?_⟩
  by_cases e : j = i
  · subst e; rw [updI_same, if_pos hi, upd_same]
  · rw [updI_ne _ _ e, upd_ne _ _ e]
theorem Gs.setN (h : Gs k W nx L w) {i : Nat} (hi : i < 257) (v : Nat) : Gs k W (fun x => if x = i then some v else nx x) L (w.setCell ⟨k, 257 + i, none⟩ (.int .i64 v)) := by
  refine ⟨(h.row.set (257 + i) v).congr fun j hj => ?_⟩
  by_cases e : j = 257 + i
  · subst e; rw [updI_same, if_neg (by omega), if_pos (by omega), Nat.add_sub_cancel_left, if_pos rfl]; rfl
  · rw [updI_ne _ _ e]
    by_cases h1 : j < 257
    · rw [if_pos h1, if_pos h1]
    · rw [if_neg h1, if_neg h1]
      by_cases h2 : j < 514
      · rw [if_pos h2, if_pos h2, if_neg (by omega)]
      · rw [if_neg h2, if_neg h2]
theorem Gs.setL (h : Gs k W nx L w) {i : Nat} (hi : i < 257) (v : Nat) : Gs k W nx (upd L i v) (w.setCell ⟨k, 514 + i, none⟩ (.int .i64 v)) := by
  refine ⟨(h.row.set (514 + i) v).congr fun j hj => ?_⟩
  by_cases e : j = 514 + i
  · subst e; rw [updI_same, if_neg (by omega), if_neg (by omega), Nat.add_sub_cancel_left, upd_same]
  · rw [updI_ne _ _ e]
    by_cases h1 : j < 257
    · rw [if_pos h1, if_pos h1]
    · rw [if_neg h1, if_neg h1]
      by_cases h2 : j < 514
      · rw [if_pos h2, if_pos h2]
      · rw [if_neg h2, if_neg h2, upd_ne _ _ (by omega)]
theorem Gs.congr {W' : Nat → Nat} {nx' : Nat → Option Nat} {L' : Nat → Nat} (h : Gs k W nx L w) (h1 : ∀ i, i < 257 → W i = W' i) (h2 : ∀ i, i < 257 → nx i = nx' i) (h3 : ∀ i, i < 257 → L i = L' i) : Gs k W' nx' L' w := by
  refine ⟨h.row.congr fun j hj => ?_⟩
  by_cases e1 : j < 257
  · rw [if_pos e1, if_pos e1, h1 j e1]
  · rw [if_neg e1, if_neg e1]
    by_cases e2 : j < 514
    · rw [if_pos e2, if_pos e2, h2 _ (by omega)]
    · rw [if_neg e2, if_neg e2, h3 _ (by omega)]
end
/-- Lengths of the first ones of a chain are one more. -/
def more (L : Nat → Nat) (l : List Nat) : Nat → Nat := fun x => if x ∈ l then L x + 1 else L x
theorem more_nil (L : Nat → Nat) : more L [] = L := by funext x; simp [more]
theorem more_step (L : Nat → Nat) (l : List Nat) (h : l.Nodup) (j x : Nat) (hx : l[j]? = some x) : upd (more L (l.take j)) x (more L (l.take j) x + 1) = more L (l.take (j + 1)) ∧ more L (l.take j) x = L x := by
  have hj : j < l.length := (List.getElem?_eq_some_iff.1 hx).1
  have hxe : l[j] = x := (List.getElem?_eq_some_iff.1 hx).2
  have hno : x ∉ l.take j := by
    intro hm
    obtain ⟨i, hi, e⟩ := List.mem_iff_getElem.1 hm
    rw [List.length_take] at hi
    rw [List.getElem_take] at e
    exact List.pairwise_iff_getElem.1 h i j (by omega) hj (by omega) (e.trans hxe.symm)
  have h2 : more L (l.take j) x = L x := if_neg hno
  refine ⟨?_, h2⟩
  funext y
  rw [List.take_succ_eq_append_getElem hj, hxe]
  by_cases e : y = x
  · subst e; rw [upd_same, h2]; simp [more]
  · rw [upd_ne _ _ e]; simp [more, e]
end Go.Proofs.Ytlfnjdgfllhepaa
