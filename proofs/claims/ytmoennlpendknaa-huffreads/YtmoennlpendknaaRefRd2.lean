/- Walks of the document's reader: Rest, Marker. -/
import Derived.Test.YtmoennlpendknaaRefRd
namespace Go.Proofs.Ytmoennlpendknaa
open Go.RowKit

/-- The document's reader lies in this block. -/
def Box (k : Nat) (s : ByteArray) (a : Nat) (hv : Value) (w : World) : Prop := w.heap[k]? = some (.cells #[.string s, .int .i64 a, hv] 52 (0, 0))
section
variable {k : Nat} {s : ByteArray} {a : Nat} {hv : Value} {w w' : World}
theorem Box.text (h : Box k s a hv w) : w.cell? ⟨k, 0, none⟩ = some (.string s) := by unfold Box at h; simp [World.cell?, h]
theorem Box.at (h : Box k s a hv w) : w.cell? ⟨k, 1, none⟩ = some (.int .i64 a) := by unfold Box at h; simp [World.cell?, h]
theorem Box.held (h : Box k s a hv w) : w.cell? ⟨k, 2, none⟩ = some hv := by unfold Box at h; simp [World.cell?, h]
theorem Box.free (h : Box k s a hv w) (o : Nat) : w.frozen? ⟨k, o, none⟩ = false := by unfold Box at h; simp [World.frozen?, h]
theorem Box.lt (h : Box k s a hv w) : k < w.heap.size := (Array.getElem?_eq_some_iff.1 h).1
theorem Box.on (h : Box k s a hv w) (hb : Below w.heap.size w w') : Box k s a hv w' := (hb.block k h.lt).trans h
theorem Box.but {j : Nat} (h : Box k s a hv w) (hb : But j w w') (hne : k ≠ j) : Box k s a hv w' := (hb.block k hne h.lt).trans h
theorem Box.oth (h : Box k s a hv w) (ho : Lib.OthersKept 3 none w w') : Box k s a hv w' := ho k _ h (by simp) (fun c fz => by simp)
theorem Box.set (h : Box k s a hv w) (s' : ByteArray) (a' : Nat) (x : Int) (hx : x = a') (hv' : Value) : Box k s' a' hv' (((w.setCell ⟨k, 0, none⟩ (.string s')).setCell ⟨k, 1, none⟩ (.int .i64 x)).setCell ⟨k, 2, none⟩ hv') := by
  subst hx
  unfold Box at h ⊢; simp [World.setCell, Array.getElem?_modify, h]
theorem Box.setHeld (h : Box k s a hv w) (hv' : Value) : Box k s a hv' (w.setCell ⟨k, 2, none⟩ hv') := by
  unfold Box at h ⊢; simp [World.setCell, Array.getElem?_modify, h]
theorem Box.setBoth (h : Box k s a hv w) (a' : Nat) (x : Int) (hx : x = a') (hv' : Value) : Box k s a' hv' ((w.setCell ⟨k, 2, none⟩ hv').setCell ⟨k, 1, none⟩ (.int .i64 x)) := by
  subst hx
  unfold Box at h ⊢; simp [World.setCell, Array.getElem?_modify, h]
end
theorem below_set3 {B k : Nat} {a w : World} (h : Below B a w) (hk : B ≤ k) (x y z : Value) : Below B a (((w.setCell ⟨k, 0, none⟩ x).setCell ⟨k, 1, none⟩ y).setCell ⟨k, 2, none⟩ z) :=
  ((h.setCell (p := ⟨k, 0, none⟩) hk _).setCell (p := ⟨k, 1, none⟩) hk _).setCell (p := ⟨k, 2, none⟩) hk _
theorem but_set3 {k : Nat} {w : World} (x y z : Value) : But k w (((w.setCell ⟨k, 0, none⟩ x).setCell ⟨k, 1, none⟩ y).setCell ⟨k, 2, none⟩ z) :=
  ((((But.refl k w).setCell 0 x).setCell 1 y).setCell 2 z)
theorem val_take_succ (H : List Bool) (i : Nat) (h : i < H.length) : val (H.take (i + 1)) = val (H.take i) * 2 + H[i].toNat := by
  rw [List.take_succ_eq_append_getElem h, val_snoc]

end Go.Proofs.Ytmoennlpendknaa
