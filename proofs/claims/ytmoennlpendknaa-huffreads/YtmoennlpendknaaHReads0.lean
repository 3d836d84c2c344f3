/- What the law's reading of bits keeps. -/
import Derived.Test.YtmoennlpendknaaRNext
import Derived.Test.YtmoennlpendknaaHPre
namespace Go.Proofs.Ytmoennlpendknaa
open Go.RowKit

theorem View.grown {v : Value} {l : List Bool} {w w' : World} {row : Option Nat} (h : View v l w) (hg : w.grownBy w' row) (hne : ∀ b, v.ownBlock = some b → row ≠ some b) : View v l w' := by
  obtain ⟨p, c, rfl, h0 | ⟨b, o, cur, rfl, hh, hc⟩⟩ := h
  · exact ⟨p, c, rfl, .inl h0⟩
  · refine ⟨_, c, rfl, .inr ⟨b, o, cur, rfl, ?_, hc⟩⟩
    rw [hg.block b (Array.getElem?_eq_some_iff.1 hh).1 (fun e => hne b rfl e.symm)]
    exact hh
/-- append(v, x): the new row is the call's own; slices elsewhere stay. -/
theorem wpList_appI2 {ops : Array Oper} {rest : List Oper} {o : Oper} {a : Act} {Q : Exit → Act → World → Prop} {w0 : World} (hgd : o.guard = none) (s x : Operand)
    (ho : o.op = .call { callee := .builtin .append, args := #[s, x], argTypes := #[30, 30] })
    (B : Nat) (v : Value) (acc : List Bool) (b : Bool)
    (hs : a.eval s = v) (hx : a.eval x = .slice (some ⟨w0.heap.size, 0, none⟩) 1 1)
    (hown : OwnI B v acc w0) (hlen : acc.length ≤ 1000000) (hB : B ≤ w0.heap.size)
    (h : ∀ v' w', OwnI B v' (acc ++ [b]) w' → Below B w0 w' → Lib.OthersKept 3 none w0 w' → (∀ u l, View u l w0 → (∀ k, u.ownBlock = some k → v.ownBlock ≠ some k) → View u l w') → wpList Try.prog ops Q rest (a.put o.dst v') w') :
    wpList Try.prog ops Q (o :: rest) a (w0.alloc (.cells #[.int .i64 (b.toNat : Nat)] 3)) := by
  obtain ⟨i0, hi, hz0, hz1, hz2⟩ := info_parts info3
  refine wpList_append_own _ hgd s x 30 ho B 3 i0 (.int .i64 0) 1 8 Try.underlying30 hi hz0 hz1 hz2 rfl (by decide) v acc.length (bitCells acc) hs (World.ownsRow.alloc hown _) ⟨w0.heap.size, 0, none⟩ 1 1 [.int .i64 (b.toNat : Nat)] hx rfl ?_ ?_ (by unfold maxLen; omega) (by omega) (by simp; omega) ?_
  · intro j u hj
    rw [add_none, Nat.zero_add, cell_of_row _ w0.heap.size j _ 3 (0, 0) (heap_alloc_new w0 _)]
    simpa using hj
  · intro u hu
    simp only [List.mem_singleton] at hu
    subst hu
    rfl
  · intro v' w' hown' hg _
    have ho2 := World.ownsRow.alloc hown (.cells #[.int .i64 (b.toNat : Nat)] 3)
    refine h v' w' ?_ (((Below.refl B w0).alloc hB _).grown hg (by simp; omega) (fun k hk => (ho2.lt k hk).1)) (((Lib.OthersKept.refl 3 none w0).alloc _).grown hg (Lib.ownsRow_kind ho2)) (fun u l hu hne => (hu.on (below_box _ _)).grown hg hne)
    unfold OwnI
    rw [List.length_append, bitCells_append]
    exact hown'

/-- The document's reader, bit by bit. -/
theorem RBit_nil (s : ByteArray) (a : Nat) (p : Option Addr) (c : Nat) (H : List Bool) (w : World) (hv : View (.slice p H.length c) H w) (hs : s.size ≤ 4000) (ha : a ≤ s.size) (hH : H.length < 8) (h : H ++ stream s.data.toList a = []) :
    Calls Try.prog 21 #[.agg #[.string s, .int .i64 a, .slice p H.length c], .int .i64 1] w fun e w' => ∃ p' c', e = .returned (.tuple #[.int .i64 0, .agg #[.string s, .int .i64 a, .slice p' H.length c'], .int .i64 2]) ∧ Below w.heap.size w w' := by
  have := rBits_yes s a p c H 1 (by omega) w hv hs ha hH
  rw [rbits_nil _ _ _ h] at this
  exact this.mono fun e w' ⟨p', c', he, _, _, hb⟩ => ⟨p', c', he, hb⟩
theorem RBit_cons (s : ByteArray) (a : Nat) (p : Option Addr) (c : Nat) (H : List Bool) (w : World) (hv : View (.slice p H.length c) H w) (hs : s.size ≤ 4000) (ha : a ≤ s.size) (hH : H.length < 8) (b : Bool) (S : List Bool) (h : H ++ stream s.data.toList a = b :: S) :
    Calls Try.prog 21 #[.agg #[.string s, .int .i64 a, .slice p H.length c], .int .i64 1] w fun e w' => ∃ p' c' a' H', e = .returned (.tuple #[.int .i64 (b.toNat : Nat), .agg #[.string s, .int .i64 (a' : Nat), .slice p' H'.length c'], .int .i64 0]) ∧ View (.slice p' H'.length c') H' w' ∧ (∀ k, p' = some k → w.heap.size ≤ k.block) ∧ a' ≤ s.size ∧ H'.length < 8 ∧ H' ++ stream s.data.toList a' = S ∧ Below w.heap.size w w' := by
  have := rBits_yes s a p c H 1 (by omega) w hv hs ha hH
  obtain ⟨r1, r2, r3⟩ := rbits_cons _ _ _ _ _ h
  have r4 := rbits_bounds s.data.toList (1 : Nat) a H (by simpa using ha) hH
  rw [r1, r2] at this
  exact this.mono fun e w' ⟨p', c', he, h1, h2, hb⟩ => ⟨p', c', _, _, he, h1, h2 rfl, by simpa using r4.1, r4.2, r3, hb⟩

/-- The reader, the table and the codes. -/
structure Kit (r : Nat) (x : ByteArray) (S : List Bool) (gt : Nat) (c : Nat → Nat) (s : ByteArray) (B g q : Nat) (w : World) : Prop where
  rd : RdS r x S w
  tb : Tbl gt c s w
  oc : OwnC B (.slice (some ⟨g, 0, none⟩) s.size q) (codes c s.data.toList 16) w
section
variable {r : Nat} {x : ByteArray} {S : List Bool} {gt : Nat} {c : Nat → Nat} {s : ByteArray} {B g q : Nat} {w w' : World}
theorem Kit.on (h : Kit r x S gt c s B g q w) (hb : Below w.heap.size w w') : Kit r x S gt c s B g q w' := ⟨h.rd.on hb, h.tb.on hb, h.oc.below hb⟩
theorem Kit.othI (h : Kit r x S gt c s B g q w) (ho : Lib.OthersKept 3 none w w') : Kit r x S gt c s B g q w' := by
  refine ⟨?_, h.tb.othI ho, h.oc.othI ho⟩
  obtain ⟨a, H, h1, h2⟩ := h.rd
  exact ⟨a, H, kept_oth0 h1 (by decide) ho, h2⟩
theorem Kit.but {k : Nat} {s' : ByteArray} {a' : Nat} {hv : Value} (h : Kit r x S gt c s B g q w) (hk : Box k s' a' hv w) (hb : But k w w') : Kit r x S gt c s B g q w' := by
  refine ⟨?_, kept_but h.tb hk (by decide) hb, h.oc.but hk (by decide) hb⟩
  obtain ⟨a, H, h1, h2⟩ := h.rd
  exact ⟨a, H, kept_but h1 hk (by decide) hb, h2⟩
end
theorem OwnI.but {B k : Nat} {v : Value} {l : List Bool} {w w' : World} {s' : ByteArray} {a' : Nat} {hv : Value} (h : OwnI B v l w) (hk : Box k s' a' hv w) (hb : But k w w') : OwnI B v l w' := by
  refine ⟨h.1, ?_⟩
  rcases h.2 with h0 | ⟨g, cap, cur, hv, hb', hh, r⟩
  · exact .inl h0
  · exact .inr ⟨g, cap, cur, hv, hb', kept_but hh hk (by decide) hb, r⟩
theorem OwnI.apart {B : Nat} {v : Value} {l : List Bool} {w : World} (h : OwnI B v l w) {p : Option Addr} {n c : Nat} (hp : ∀ k, p = some k → w.heap.size ≤ k.block) : ∀ k, Value.ownBlock (.slice p n c) = some k → v.ownBlock ≠ some k := by
  intro k hk e
  have h1 := (World.ownsRow.lt h k e).2
  cases p with
  | none => cases hk
  | some b =>
    have h2 : b.block = k := Option.some.inj hk
    have := hp b rfl
    omega
end Go.Proofs.Ytmoennlpendknaa
