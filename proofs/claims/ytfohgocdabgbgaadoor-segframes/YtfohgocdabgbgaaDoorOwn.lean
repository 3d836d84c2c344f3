/- Byte slices that a call owns; walks of package bits: the writer's small functions. -/
import Derived.Test.YtfohgocdabgbgaaDoorRdr
import Derived.Laws.IdiomStrings
import Derived.Laws.BytesArg
import Derived.Deep.RegionWith
namespace Go.Proofs.YtfohgocdabgbgaaDoor
open Go.RowKit

/-- The value is a slice of bytes of the call's own (from block B on) that holds just these bytes. -/
def Owns (B : Nat) (v : Value) (acc : List UInt8) (w : World) : Prop := w.ownsRow B 5 1 v acc.length (Lib.byteCells acc)
theorem Owns.below {B : Nat} {v : Value} {acc : List UInt8} {w w' : World} (h : Owns B v acc w) (hb : Below w.heap.size w w') : Owns B v acc w' := World.ownsRow.kept h (below_grown hb) (by cases v.ownBlock <;> simp)
theorem Owns.alloc {B : Nat} {v : Value} {acc : List UInt8} {w : World} (h : Owns B v acc w) (o : Obj) : Owns B v acc (w.alloc o) := World.ownsRow.alloc h o
theorem Owns.len {B : Nat} {v : Value} {l : List UInt8} {w : World} (h : Owns B v l w) : ∃ p c, v = .slice p l.length c := by
  rcases h.2 with ⟨rfl, h0⟩ | ⟨g, cap, cur, rfl, _⟩
  · exact ⟨none, 0, by rw [h0]⟩
  · exact ⟨_, _, rfl⟩
theorem Owns.shape {B : Nat} {v : Value} {l : List UInt8} {w : World} (h : Owns B v l w) : ∃ p m c, v = .slice p m c ∧ Hid (m = l.length) := by
  obtain ⟨p, c, h⟩ := h.len
  exact ⟨p, _, c, h, rfl⟩
theorem info5 : (Tryd.prog.info? 5).map (fun i => (i.zero, i.size, i.bytes)) = some (some (.int .u8 0), 1, 1) := by kernel_rfl

/-- string(b). -/
theorem owns_conv {B : Nat} {v : Value} {acc : List UInt8} {w : World} (h : Owns B v acc w) : (convert 31 9 v).run Tryd.prog w = .ok (.string ⟨acc.toArray⟩) w := by
  rcases h.2 with ⟨rfl, h0⟩ | ⟨g, cap, cur, rfl, hb, hh, hn, hm, hs, ht⟩
  · have : acc = [] := List.eq_nil_of_length_eq_zero h0
    subst this
    exact run_convert_bytes_nil w 31 5 Tryd.underlying31 Tryd.underlying5 0 0 9 Tryd.underlying9
  · refine run_convert_bytes_back w 31 9 5 ⟨g, 0, none⟩ cap acc Tryd.underlying31 Tryd.underlying5 Tryd.underlying9 fun j hj => ?_
    refine World.ownsRow.cells h (g := g) rfl j _ ?_
    simp [Lib.byteCells, hj]

/-- append(b, x, y, ..): the new bytes lie in a block of their own. -/
theorem wpList_app {ops : Array Oper} {rest : List Oper} {o : Oper} {a : Act} {Q : Exit → Act → World → Prop} {w0 : World} (hgd : o.guard = none) (s x : Operand)
    (ho : o.op = .call { callee := .builtin .append, args := #[s, x], argTypes := #[31, 31] })
    (B : Nat) (v : Value) (acc : List UInt8) (m : Nat) (news : List Value) (l : List UInt8) (hl : news = Lib.byteCells l) (hm : m = l.length)
    (hs : a.eval s = v) (hx : a.eval x = .slice (some ⟨w0.heap.size, 0, none⟩) m m)
    (hown : Owns B v acc w0) (hlen : acc.length + l.length ≤ 140737488355328) (hB : B ≤ w0.heap.size)
    (h : ∀ v' w', Owns B v' (acc ++ l) w' → Below B w0 w' → Lib.OthersKept 5 none w0 w' → wpList Tryd.prog ops Q rest (a.put o.dst v') w') :
    wpList Tryd.prog ops Q (o :: rest) a (w0.alloc (.cells news.toArray 5)) := by
  obtain ⟨i0, hi, hz0, hz1, hz2⟩ := info_parts info5
  subst hm
  have hnl : news.length = l.length := by rw [hl, Lib.byteCells_length]
  refine wpList_append_own _ hgd s x 31 ho B 5 i0 (.int .u8 0) 1 1 Tryd.underlying31 hi hz0 hz1 hz2 rfl (by decide) v acc.length (Lib.byteCells acc) hs (World.ownsRow.alloc hown _) ⟨w0.heap.size, 0, none⟩ l.length l.length news hx (by omega) ?_ ?_ (by unfold maxLen; omega) (by omega) (by simp; omega) ?_
  · intro j u hj
    have hadd : (⟨w0.heap.size, 0, none⟩ : Addr).add j = ⟨w0.heap.size, j, none⟩ := by unfold Addr.add; split <;> simp_all
    rw [hadd, cell_of_row _ w0.heap.size j news.toArray 5 (0, 0) (heap_alloc_new w0 _)]
    simpa using hj
  · intro u hu
    rw [hl] at hu
    simp only [Lib.byteCells, List.mem_map] at hu
    obtain ⟨b, _, rfl⟩ := hu
    rfl
  · intro v' w' hown' hg _
    have ho2 := World.ownsRow.alloc hown (.cells news.toArray 5)
    refine h v' w' ?_ (((Below.refl B w0).alloc hB _).grown hg (by simp; omega) (fun k hk => (ho2.lt k hk).1)) (((Lib.OthersKept.refl 5 none w0).alloc _).grown hg (Lib.ownsRow_kind ho2))
    unfold Owns
    rw [List.length_append, Lib.byteCells_append, ← hl]
    exact hown'

theorem data_length (b : Nat) : (data b).length ≤ 2 := by unfold data; split <;> simp

/-- A writer stands in this block: its whole bytes, the number of the bits that were begun, and how many bits were put. -/
def Wr (B k : Nat) (out : List UInt8) (part put : Nat) (w : World) : Prop :=
  B ≤ k ∧ ∃ v, w.heap[k]? = some (.cells #[v, .int .i64 part, .int .i64 put] 69 (0, 0)) ∧ Owns B v out w
/-- A writer whose bytes this value is. -/
def WrV (k : Nat) (v : Value) (part put : Nat) (w : World) : Prop := w.heap[k]? = some (.cells #[v, .int .i64 part, .int .i64 put] 69 (0, 0))
section
variable {B k : Nat} {v : Value} {part put : Nat} {w w' : World}
theorem WrV.cOut (h : WrV k v part put w) : w.cell? ⟨k, 0, none⟩ = some v := by unfold WrV at h; simp [World.cell?, h]
theorem WrV.cPart (h : WrV k v part put w) : w.cell? ⟨k, 1, none⟩ = some (.int .i64 part) := by unfold WrV at h; simp [World.cell?, h]
theorem WrV.cPut (h : WrV k v part put w) : w.cell? ⟨k, 2, none⟩ = some (.int .i64 put) := by unfold WrV at h; simp [World.cell?, h]
theorem WrV.free (h : WrV k v part put w) (o : Nat) : w.frozen? ⟨k, o, none⟩ = false := by unfold WrV at h; simp [World.frozen?, h]
theorem WrV.lt (h : WrV k v part put w) : k < w.heap.size := (Array.getElem?_eq_some_iff.1 h).1
theorem WrV.on (h : WrV k v part put w) (hb : Below w.heap.size w w') : WrV k v part put w' := (hb.block k h.lt).trans h
theorem WrV.kept (h : WrV k v part put w) (hb : Lib.OthersKept 5 none w w') : WrV k v part put w' := hb k _ h (by simp) (fun c fz => by simp)
theorem WrV.setOut (h : WrV k v part put w) (u : Value) : WrV k u part put (w.setCell ⟨k, 0, none⟩ u) := by
  unfold WrV at h ⊢; simp [World.setCell, Array.getElem?_modify, h]
theorem WrV.setPart (h : WrV k v part put w) (x : Nat) (z : Int) (hz : z = x) : WrV k v x put (w.setCell ⟨k, 1, none⟩ (.int .i64 z)) := by
  subst hz; unfold WrV at h ⊢; simp [World.setCell, Array.getElem?_modify, h]
theorem WrV.setPut (h : WrV k v part put w) (x : Nat) (z : Int) (hz : z = x) : WrV k v part x (w.setCell ⟨k, 2, none⟩ (.int .i64 z)) := by
  subst hz; unfold WrV at h ⊢; simp [World.setCell, Array.getElem?_modify, h]
/-- A store into the writer's block leaves its row as it is. -/
theorem Owns.setCell {u : Value} {acc : List UInt8} (h : Owns B u acc w) (hw : WrV k v part put w) (o : Nat) (x : Value) : Owns B u acc (w.setCell ⟨k, o, none⟩ x) := by
  refine World.ownsRow.kept h (((But.refl k w).setCell o x).grown) (.inr ?_)
  intro e
  obtain ⟨c, fz, hc⟩ := Lib.ownsRow_kind h k e
  unfold WrV at hw
  rw [hw] at hc
  simp at hc
end
theorem OthersKept.some {w w' : World} (k : Nat) (h : Lib.OthersKept 5 none w w') : Lib.OthersKept 5 (some k) w w' := fun j o hj _ ho => h j o hj (by simp) ho

/-- The byte that fills what was begun. -/
def fillb (part put : Nat) : List UInt8 := if put % 8 = 0 then [] else data (part * 2 ^ (8 - put % 8) + (2 ^ (8 - put % 8) - 1))
theorem fill_or (part f : Nat) (hf1 : 1 ≤ f) (hf : f ≤ 7) (hp : part < 2 ^ (8 - f)) :
    bits .or .i64 (wrap64 ((part : Int) * 2 ^ f)) (wrap64 (wrap64 (2 ^ f) - 1)) = ((part * 2 ^ f + (2 ^ f - 1) : Nat) : Int) ∧ part * 2 ^ f + (2 ^ f - 1) < 256 := by
  have h1 := pow_le24 f (by omega)
  have h2 := Nat.two_pow_pos f
  have e : 2 ^ (8 - f) * 2 ^ f = 256 := by rw [← Nat.pow_add, show 8 - f + f = 8 by omega]
  have h3 : part * 2 ^ f + 2 ^ f ≤ 256 := by rw [← e, ← Nat.succ_mul]; exact Nat.mul_le_mul_right _ hp
  have e2 : (part : Int) * 2 ^ f = ((part * 2 ^ f : Nat) : Int) := by simp
  refine ⟨?_, by omega⟩
  rw [wrap_pow f (by omega), e2, show ((2 ^ f : Nat) : Int) - 1 = ((2 ^ f - 1 : Nat) : Int) by omega, wrap64_nat _ (by omega), wrap64_nat _ (by omega), i64_or_nat _ _ (by omega) (by omega), or_pow _ _ _ (by omega)]

end Go.Proofs.YtfohgocdabgbgaaDoor
