/- Byte slices that a call owns; the tables that it reads; what a call leaves as it was. -/
import Derived.Test.YthkjnhihpbomaaaDoorHexWalk
import Derived.Test.YthkjnhihpbomaaaDoorShelf
import Derived.Laws.IdiomStrings
import Derived.Laws.BytesArg
namespace Go.Proofs.YthkjnhihpbomaaaDoor
open Go.RowKit

/-- The value is a slice of bytes of the call's own (from block B on) that holds just these bytes. -/
def Owns (B : Nat) (v : Value) (acc : List UInt8) (w : World) : Prop := w.ownsRow B 5 1 v acc.length (Lib.byteCells acc)
/-- Below B all is as it was, and so is each block that is no row of bytes. -/
structure Kept (B : Nat) (w w' : World) : Prop where
  low : Below B w w'
  oth : Lib.OthersKept 5 none w w'

theorem Kept.refl (B : Nat) (w : World) : Kept B w w := ⟨Below.refl _ _, Lib.OthersKept.refl _ _ _⟩
theorem Kept.trans {B : Nat} {a b c : World} (h : Kept B a b) (k : Kept B b c) : Kept B a c := ⟨h.low.trans k.low, h.oth.trans k.oth⟩
theorem Kept.below {B : Nat} {a w w' : World} (h : Kept B a w) (hB : B ≤ w.heap.size) (hb : Below w.heap.size w w') : Kept B a w' :=
  ⟨h.low.trans (hb.mono hB), h.oth.trans (others_below hb 5)⟩
theorem Kept.alloc {B : Nat} {a w : World} (h : Kept B a w) (hB : B ≤ w.heap.size) (o : Obj) : Kept B a (w.alloc o) :=
  ⟨h.low.alloc hB o, h.oth.alloc o⟩
theorem Kept.iter {B : Nat} {w w' : World} (h : Kept B w w') {k : Nat} {s : ByteArray} {pos : Nat} (hk : w.heap[k]? = some (.stringIter s pos)) : w'.heap[k]? = some (.stringIter s pos) :=
  h.oth k _ hk (by simp) (fun _ _ => by simp)

theorem Owns.below {B : Nat} {v : Value} {acc : List UInt8} {w w' : World} (h : Owns B v acc w) (hb : Below w.heap.size w w') : Owns B v acc w' := owns_below h hb
theorem Owns.alloc {B : Nat} {v : Value} {acc : List UInt8} {w : World} (h : Owns B v acc w) (o : Obj) : Owns B v acc (w.alloc o) := World.ownsRow.alloc h o

/-- An iterator that moves on leaves a row as it is. -/
theorem Owns.iterAt {B : Nat} {v : Value} {acc : List UInt8} {w : World} (h : Owns B v acc w) {k : Nat} {s : ByteArray} {pos : Nat} (hk : w.heap[k]? = some (.stringIter s pos)) (pos' : Nat) : Owns B v acc (w.iterAt k s pos') := by
  refine ⟨h.1, ?_⟩
  rcases h.2 with h0 | ⟨g, cap, cur, hv, hb, hh, r⟩
  · exact .inl h0
  · refine .inr ⟨g, cap, cur, hv, hb, ?_, r⟩
    rw [Lib.iterAt_other w k g s pos' (fun e => by rw [e, hk] at hh; cases hh)]
    exact hh

/-- The library's tables stand below B: they read so in every world that is alike below B. -/
structure Tabs (B : Nat) (w : World) : Prop where
  four : 4 < B
  room : B ≤ w.heap.size
  utf : ∀ w', Below B w w' → Lib.Utf8Tabs 0 1 w'
  tz : ∀ w', Below B w w' → w'.cell? ⟨4, 15, none⟩ = some (.int .u8 4)
theorem Tabs.on {B : Nat} {w w' : World} (h : Tabs B w) (hb : Below B w w') : Tabs B w' :=
  ⟨h.four, Nat.le_trans h.room hb.size, fun w2 h2 => h.utf w2 (hb.trans h2), fun w2 h2 => h.tz w2 (hb.trans h2)⟩
theorem Tabs.up {B B' : Nat} {w : World} (h : Tabs B w) (h1 : B ≤ B') (h2 : B' ≤ w.heap.size) : Tabs B' w :=
  ⟨Nat.lt_of_lt_of_le h.four h1, h2, fun w2 hb => h.utf w2 (hb.mono h1), fun w2 hb => h.tz w2 (hb.mono h1)⟩
theorem Tabs.top {B : Nat} {w : World} (h : Tabs B w) : Tabs w.heap.size w := h.up h.room (Nat.le_refl _)
theorem Tabs.utf0 {B : Nat} {w : World} (h : Tabs B w) : Lib.Utf8Tabs 0 1 w := h.utf w (Below.refl _ _)
theorem Tabs.tz0 {B : Nat} {w : World} (h : Tabs B w) : w.cell? ⟨4, 15, none⟩ = some (.int .u8 4) := h.tz w (Below.refl _ _)

/-- string(b). -/
theorem owns_conv {B : Nat} {v : Value} {acc : List UInt8} {w : World} (h : Owns B v acc w) : (convert 38 9 v).run Tryd.prog w = .ok (.string ⟨acc.toArray⟩) w := by
  rcases h.2 with ⟨rfl, h0⟩ | ⟨g, cap, cur, rfl, hb, hh, hn, hm, hs, ht⟩
  · have : acc = [] := List.eq_nil_of_length_eq_zero h0
    subst this
    exact run_convert_bytes_nil w 38 5 Tryd.underlying38 Tryd.underlying5 0 0 9 Tryd.underlying9
  · refine run_convert_bytes_back w 38 9 5 ⟨g, 0, none⟩ cap acc Tryd.underlying38 Tryd.underlying5 Tryd.underlying9 fun j hj => ?_
    refine World.ownsRow.cells h (g := g) rfl j _ ?_
    simp [Lib.byteCells, hj]

theorem info5 : (Tryd.prog.info? 5).map (fun i => (i.zero, i.size, i.bytes)) = some (some (.int .u8 0), 1, 1) := by kernel_rfl

/-- append(b, x, y, ..): the new bytes lie in a block of their own. -/
theorem wpList_app {ops : Array Oper} {rest : List Oper} {o : Oper} {a : Act} {Q : Exit → Act → World → Prop} {w0 : World} (hgd : o.guard = none) (s x : Operand)
    (ho : o.op = .call { callee := .builtin .append, args := #[s, x], argTypes := #[38, 38] })
    (B : Nat) (v : Value) (acc : List UInt8) (m : Nat) (news : List Value) (l : List UInt8) (hl : news = Lib.byteCells l) (hm : m = l.length)
    (hs : a.eval s = v) (hx : a.eval x = .slice (some ⟨w0.heap.size, 0, none⟩) m m)
    (hown : Owns B v acc w0) (hlen : acc.length + l.length ≤ 140737488355328) (hB : B ≤ w0.heap.size)
    (h : ∀ v' w', Owns B v' (acc ++ l) w' → Kept B w0 w' → wpList Tryd.prog ops Q rest (a.put o.dst v') w') :
    wpList Tryd.prog ops Q (o :: rest) a (w0.alloc (.cells news.toArray 5)) := by
  obtain ⟨i0, hi, hz0, hz1, hz2⟩ := info_parts info5
  subst hm
  have hnl : news.length = l.length := by rw [hl, Lib.byteCells_length]
  refine wpList_append_own _ hgd s x 38 ho B 5 i0 (.int .u8 0) 1 1 Tryd.underlying38 hi hz0 hz1 hz2 rfl (by decide) v acc.length (Lib.byteCells acc) hs (World.ownsRow.alloc hown _) ⟨w0.heap.size, 0, none⟩ l.length l.length news hx (by omega) ?_ ?_ (by unfold maxLen; omega) (by omega) (by simp; omega) ?_
  · intro j u hj
    have hadd : (⟨w0.heap.size, 0, none⟩ : Addr).add j = ⟨w0.heap.size, j, none⟩ := by unfold Addr.add; split <;> simp_all
    rw [hadd, cell_of_row _ w0.heap.size j news.toArray 5 (0, 0) (heap_alloc_new w0 _)]
    simpa using hj
  · intro u hu
    rw [hl] at hu
    simp only [Lib.byteCells, List.mem_map] at hu
    obtain ⟨b, _, rfl⟩ := hu
    rfl
  · intro v' w' hown' hg _
    refine h v' w' ?_ ?_
    · unfold Owns
      rw [List.length_append, Lib.byteCells_append, ← hl]
      exact hown'
    · have ho2 := World.ownsRow.alloc hown (.cells news.toArray 5)
      exact ⟨((Below.refl B w0).alloc hB _).grown hg (by simp; omega) (fun k hk => (ho2.lt k hk).1), ((Lib.OthersKept.refl 5 none w0).alloc _).grown hg (Lib.ownsRow_kind ho2)⟩
end Go.Proofs.YthkjnhihpbomaaaDoor
