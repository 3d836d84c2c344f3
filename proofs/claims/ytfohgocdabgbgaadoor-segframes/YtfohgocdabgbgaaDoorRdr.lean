/- Walks of package bits: the reader. -/
import Derived.Test.YtfohgocdabgbgaaDoorWalk
namespace Go.Proofs.YtfohgocdabgbgaaDoor
open Go.RowKit

/-- All blocks but one are as they were. -/
structure But (k : Nat) (w w' : World) : Prop where
  os : w'.os = w.os
  tape : w'.tape = w.tape
  output : w'.output = w.output
  size : w.heap.size ≤ w'.heap.size
  block : ∀ j, j ≠ k → j < w.heap.size → w'.heap[j]? = w.heap[j]?
theorem But.refl (k : Nat) (w : World) : But k w w := ⟨rfl, rfl, rfl, Nat.le_refl _, fun _ _ _ => rfl⟩
theorem But.trans {k : Nat} {a b c : World} (h : But k a b) (g : But k b c) : But k a c :=
  ⟨g.os.trans h.os, g.tape.trans h.tape, g.output.trans h.output, Nat.le_trans h.size g.size, fun j hj hl => (g.block j hj (Nat.lt_of_lt_of_le hl h.size)).trans (h.block j hj hl)⟩
theorem But.drewN {k : Nat} {a b : World} (h : But k a b) (n : Nat) : But k a (b.drewN n) := ⟨h.os, h.tape, h.output, h.size, h.block⟩
theorem But.setCell {k : Nat} {a b : World} (h : But k a b) (o : Nat) (v : Value) : But k a (b.setCell ⟨k, o, none⟩ v) :=
  ⟨h.os, h.tape, h.output, by simpa using h.size, fun j hj hl => by
    rw [← h.block j hj hl]
    simp [World.setCell, Array.getElem?_modify, hj.symm]⟩
theorem But.below {k B : Nat} {w w' : World} (h : But k w w') (hk : B ≤ k) (hB : B ≤ w.heap.size) : Below B w w' :=
  ⟨h.os, h.tape, h.output, h.size, fun j hj => h.block j (by omega) (by omega)⟩
theorem But.of_below {k : Nat} {w w' : World} (h : Below w.heap.size w w') : But k w w' :=
  ⟨h.os, h.tape, h.output, h.size, fun j _ hl => h.block j hl⟩
theorem But.grown {k : Nat} {w w' : World} (h : But k w w') : w.grownBy w' (some k) := ⟨h.os, h.tape, h.output, h.size, fun j hj hne => h.block j (fun e => hne (by rw [e])) hj⟩
theorem below_grown {w w' : World} (h : Below w.heap.size w w') : w.grownBy w' none := ⟨h.os, h.tape, h.output, h.size, fun j hj _ => h.block j hj⟩
theorem below_drewN (B : Nat) (w : World) (n : Nat) : Below B w (w.drewN n) := ⟨rfl, rfl, rfl, Nat.le_refl _, fun _ _ => rfl⟩

/-- A reader of the text stands in this block: the place, and the bits that are left of a byte. -/
def Rd (k : Nat) (s : ByteArray) (a : Nat) (H : List Bool) (w : World) : Prop :=
  w.heap[k]? = some (.cells #[.string s, .int .i64 a, .int .i64 H.length, .int .i64 (val H)] 73 (0, 0))
section
variable {k : Nat} {s : ByteArray} {a : Nat} {H : List Bool} {w w' : World}
theorem Rd.text (h : Rd k s a H w) : w.cell? ⟨k, 0, none⟩ = some (.string s) := by unfold Rd at h; simp [World.cell?, h]
theorem Rd.at (h : Rd k s a H w) : w.cell? ⟨k, 1, none⟩ = some (.int .i64 a) := by unfold Rd at h; simp [World.cell?, h]
theorem Rd.left (h : Rd k s a H w) : w.cell? ⟨k, 2, none⟩ = some (.int .i64 H.length) := by unfold Rd at h; simp [World.cell?, h]
theorem Rd.part (h : Rd k s a H w) : w.cell? ⟨k, 3, none⟩ = some (.int .i64 (val H)) := by unfold Rd at h; simp [World.cell?, h]
theorem Rd.free (h : Rd k s a H w) (o : Nat) : w.frozen? ⟨k, o, none⟩ = false := by unfold Rd at h; simp [World.frozen?, h]
theorem Rd.lt (h : Rd k s a H w) : k < w.heap.size := (Array.getElem?_eq_some_iff.1 h).1
theorem Rd.on (h : Rd k s a H w) (hb : Below w.heap.size w w') : Rd k s a H w' := (hb.block k h.lt).trans h
theorem Rd.but {j : Nat} (h : Rd k s a H w) (hb : But j w w') (hne : k ≠ j) : Rd k s a H w' := (hb.block k hne h.lt).trans h
/-- Behind the three stores. -/
theorem Rd.set3 (h : Rd k s a H w) (b : Nat) (G : List Bool) (x y z : Int) (hx : x = b) (hy : y = G.length) (hz : z = val G) :
    Rd k s b G (((w.setCell ⟨k, 1, none⟩ (.int .i64 x)).setCell ⟨k, 2, none⟩ (.int .i64 y)).setCell ⟨k, 3, none⟩ (.int .i64 z)) := by
  subst hx hy hz
  unfold Rd at h ⊢; simp [World.setCell, Array.getElem?_modify, h]
theorem Rd.set2 (h : Rd k s a H w) (G : List Bool) (y z : Int) (hy : y = G.length) (hz : z = val G) :
    Rd k s a G ((w.setCell ⟨k, 2, none⟩ (.int .i64 y)).setCell ⟨k, 3, none⟩ (.int .i64 z)) := by
  subst hy hz
  unfold Rd at h ⊢; simp [World.setCell, Array.getElem?_modify, h]
end

/-- From which place a reader reads. -/
def start (s : ByteArray) (z : Int) : Nat := if z < 0 then 0 else min z.toNat s.size
theorem start_le (s : ByteArray) (z : Int) : start s z ≤ s.size := by unfold start; split <;> omega
theorem new_rd (s : ByteArray) (a : Nat) (x : Int) (hx : x = a) (w : World) : Rd w.heap.size s a [] (w.alloc (.cells #[.string s, .int .i64 x, .int .i64 0, .int .i64 0] 73)) := by
  subst hx
  exact heap_alloc_new _ _
theorem part_or (G : List Bool) (b : Nat) (hG : G.length ≤ 16) (hb : b < 256) : bits .or .i64 (wrap64 ((val G : Int) * 256)) (b : Int) = ((val (G ++ bitsOf b 8) : Nat) : Int) := by
  have h1 := val_lt G
  have h2 : 2 ^ G.length ≤ 2 ^ 16 := Nat.pow_le_pow_right (by omega) hG
  have h3 := val_append G (bitsOf b 8)
  rw [bitsOf_length, val_bitsOf_lt b 8 (by omega)] at h3
  rw [h3]
  generalize val G = x at *
  have := i64_or_nat (x * 2 ^ 8) b (by omega) (by omega)
  rw [or_pow x b 8 (by omega)] at this
  rw [wrap64_small _ (by omega) (by omega)]
  simpa using this
theorem val_24 (G : List Bool) (h : G.length ≤ 24) : val G < 16777216 := by
  have h1 := val_lt G
  have h2 := pow_le24 G.length h
  omega
theorem shr_val (G : List Bool) (n : Nat) : (val G : Int) / 2 ^ (G.length - n) = ((val (G.take n) : Nat) : Int) := by
  rw [val_take]; simp
end Go.Proofs.YtfohgocdabgbgaaDoor
