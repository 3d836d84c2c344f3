/- The document's Lengths: what lies in memory. -/
import Derived.Test.YtlfnjdgfllhepaaRLeast
import Derived.Test.YtlfnjdgfllhepaaQLast
import Derived.Deep.RegionWith
namespace Go.Proofs.Ytlfnjdgfllhepaa
open Go.RowKit

/-- A value is a slice of this length. -/
def slen : Value → Nat
  | .slice _ n _ => n
  | _ => 0
/-- What lies in memory ahead of the groups: the numbers, the result, the lengths. -/
structure LS (B : Nat) (fi : Nat → Int) (L : Nat → Nat) (w wr : World) : Prop where
  arg : RowN 22 256 B fi wr
  res : RowN 47 257 (B + 1) (fun _ => 0) wr
  out : RowN 47 257 (B + 1 + 1) (fun i => (L i : Int)) wr
  low : Below B w wr
section
variable {B : Nat} {fi : Nat → Int} {L : Nat → Nat} {w wr w' : World}
theorem LS.on (h : LS B fi L w wr) (hb : Below wr.heap.size wr w') : LS B fi L w w' :=
  ⟨h.arg.on hb, h.res.on hb, h.out.on hb, h.low.trans (hb.mono (by have := h.arg.lt; omega))⟩
theorem LS.draw (h : LS B fi L w wr) : LS B fi L w wr.drew := ⟨h.arg, h.res, h.out, h.low.drew⟩
theorem LS.onB {b : Nat} (h : LS B fi L w wr) (hb : Below b wr w') (hB : B + 2 < b) : LS B fi L w w' :=
  ⟨h.arg.onB hb (by omega), h.res.onB hb (by omega), h.out.onB hb hB, h.low.trans (hb.mono (by omega))⟩
theorem LS.set (h : LS B fi L w wr) (x v : Nat) : LS B fi (upd L x v) w (wr.setCell ⟨B + 1 + 1, x, none⟩ (.int .i64 v)) := by
  refine ⟨h.arg.other (by omega) _, h.res.other (by omega) _, (h.out.set x v).congr fun i _ => ?_, below_cell h.low (by omega) _⟩
  by_cases e : i = x
  · subst e; rw [updI_same, upd_same]
  · rw [updI_ne _ _ e, upd_ne _ _ e]
end
/-- A group lies in this block. -/
def BoxG (k F N : Nat) (u : Value) (w : World) : Prop := w.heap[k]? = some (.cells #[.int .i64 (F : Nat), .int .i64 (N : Nat), u] 74 (0, 0))
section
variable {k F N : Nat} {u : Value} {w w' : World}
theorem BoxG.c0 (h : BoxG k F N u w) : w.cell? ⟨k, 0, none⟩ = some (.int .i64 (F : Nat)) := by unfold BoxG at h; simp [World.cell?, h]
theorem BoxG.c1 (h : BoxG k F N u w) : w.cell? ⟨k, 1, none⟩ = some (.int .i64 (N : Nat)) := by unfold BoxG at h; simp [World.cell?, h]
theorem BoxG.c2 (h : BoxG k F N u w) : w.cell? ⟨k, 2, none⟩ = some u := by unfold BoxG at h; simp [World.cell?, h]
theorem BoxG.free (h : BoxG k F N u w) (o : Nat) : w.frozen? ⟨k, o, none⟩ = false := by unfold BoxG at h; simp [World.frozen?, h]
theorem BoxG.lt (h : BoxG k F N u w) : k < w.heap.size := (Array.getElem?_eq_some_iff.1 h).1
theorem BoxG.on (h : BoxG k F N u w) (hb : Below w.heap.size w w') : BoxG k F N u w' := (hb.block k h.lt).trans h
theorem BoxG.set2 (h : BoxG k F N u w) (u' : Value) : BoxG k F N u' (w.setCell ⟨k, 2, none⟩ u') := by
  unfold BoxG at h ⊢; simp [World.setCell, Array.getElem?_modify, h]
theorem BoxG.other (h : BoxG k F N u w) {j : Nat} (hj : k ≠ j) (i : Nat) (v : Value) : BoxG k F N u (w.setCell ⟨j, i, none⟩ v) := by
  unfold BoxG; rw [heap_setCell_other w ⟨j, i, none⟩ k v hj]; exact h
end
theorem but_cell (k i : Nat) (v : Value) (w : World) : But k w (w.setCell ⟨k, i, none⟩ v) := (But.refl k w).setCell i v
/-- The state while lengths are counted up. -/
structure RS (B G : Nat) (fi : Nat → Int) (v : Value) (gs : List Grp) (F N : Nat) (u : Value) (all : List Nat) (L : Nat → Nat) (w wr : World) : Prop where
  ls : LS B fi L w wr
  gl : GL B v gs wr
  box : BoxG G F N u wr
  view : ViewN u all wr
  big : B + 2 < G
section
variable {B G : Nat} {fi : Nat → Int} {v : Value} {gs : List Grp} {F N : Nat} {u : Value} {all : List Nat} {L : Nat → Nat} {w wr w' : World}
theorem RS.on (h : RS B G fi v gs F N u all L w wr) (hb : Below wr.heap.size wr w') : RS B G fi v gs F N u all L w w' :=
  ⟨h.ls.on hb, h.gl.below hb, h.box.on hb, h.view.on hb, h.big⟩
theorem RS.draw (h : RS B G fi v gs F N u all L w wr) : RS B G fi v gs F N u all L w wr.drew := h.on ((Below.refl _ _).drew)
theorem RS.set (h : RS B G fi v gs F N u all L w wr) (x y : Nat) : RS B G fi v gs F N u all (upd L x y) w (wr.setCell ⟨B + 1 + 1, x, none⟩ (.int .i64 y)) :=
  ⟨h.ls.set x y, h.gl.but (but_cell _ _ _ _) h.ls.out (by decide) (by decide), h.box.other (by have := h.big; omega) _ _, h.view.but (but_cell _ _ _ _) h.ls.out (by decide), h.big⟩
end
theorem GL.weak {B B' : Nat} {v : Value} {gs : List Grp} {w : World} (h : GL B v gs w) (hB : B' ≤ B) : GL B' v gs w := by
  obtain ⟨l, h1, h2, h3⟩ := h
  refine ⟨l, h1, ⟨h2.1, ?_⟩, h3⟩
  rcases h2.2 with h0 | ⟨g, cap, cur, hv, hb, r⟩
  · exact .inl h0
  · exact .inr ⟨g, cap, cur, hv, Nat.le_trans hB hb, r⟩
theorem cell_alloc {W : World} {a : Addr} {v : Value} (o : Obj) (h : W.cell? a = some v) : (W.alloc o).cell? a = some v := by
  have hb := World.block_lt_of_cell? W a h
  unfold World.cell? at h ⊢
  rw [Below.heap_alloc W o a.block hb]
  exact h
/-- append(v, x...), as one step of a region that draws. -/
theorem step_appVN {ops : Array Oper} {o : Oper} {a : Act} {w0 : World} {K : Act → World → Prop} {Q : Exit → Act → World → Prop} {E : Prop} (hgd : o.guard = none) (s x : Operand)
    (ho : o.op = .call { callee := .builtin .append, args := #[s, x], argTypes := #[62, 62] })
    (B : Nat) (v u : Value) (acc l : List Nat) (hs : a.eval s = v) (hx : a.eval x = u)
    (hown : OwnN B v acc w0) (hu : ViewN u l w0) (hlen : acc.length + l.length ≤ 1000000) (hB : B ≤ w0.heap.size)
    (h : ∀ v' w', OwnN B v' (acc ++ l) w' → Below B w0 w' → Lib.OthersKept 3 none w0 w' → K (a.put o.dst v') w') :
    if Region.wanted o (yielded ops a.tmps) = true then Oper.wp Try.prog o a w0 K Q else E := by
  have hw : Region.wanted o (yielded ops a.tmps) = true := by simp [Region.wanted, hgd]
  rw [if_pos hw]
  obtain ⟨i0, hi, hz0, hz1, hz2⟩ := info_parts infoI3
  obtain ⟨p, c, rfl, ⟨rfl, rfl, rfl⟩ | ⟨b, off, cur, rfl, hh, hc⟩⟩ := hu
  · have hrun := run_append_owned_none (P := Try.prog) (w := w0) B 62 o.type 3 i0 1 Try.underlying62 hi v acc.length (natCells acc) hown
    unfold Oper.wp
    simp [execOp, ho, resolve, invoke, builtin, hs, hx, hrun, Result.andThen]
    exact h v w0 (by rw [List.append_nil]; exact hown) (Below.refl _ _) (Lib.OthersKept.refl _ _ _)
  · refine wp_append_own w0 s x 62 ho B 3 i0 (.int .i64 0) 1 8 Try.underlying62 hi hz0 hz1 hz2 rfl (by decide) v acc.length (natCells acc) hs hown ⟨b, off, none⟩ l.length c (natCells l) hx (by rw [natCells_length, Nat.mul_one]) ?_ ?_ (by unfold maxLen; omega) (by omega) hB ?_
    · intro j u hj
      rw [add_none, cell_of_row w0 b (off + j) cur 3 (0, 0) hh]
      have hjl : j < l.length := by have := (List.getElem?_eq_some_iff.1 hj).1; rwa [natCells_length] at this
      rw [hc j hjl]
      simp [natCells, hjl] at hj
      rw [hj]
    · intro u hu
      simp only [natCells, List.mem_map] at hu
      obtain ⟨b, _, rfl⟩ := hu
      rfl
    · intro v' w' hown' hg _
      refine h v' w' ?_ ((Below.refl B w0).grown hg hB (fun k hk => (World.ownsRow.lt hown k hk).1)) ((Lib.OthersKept.refl 3 none w0).grown hg (Lib.ownsRow_kind hown))
      unfold OwnN
      rw [List.length_append, natCells_append]
      exact hown'

theorem nodup_len : ∀ (n : Nat) (l : List Nat), l.Nodup → (∀ x ∈ l, x < n) → l.length ≤ n
  | 0, l, _, h => by
    cases l with
    | nil => exact Nat.le_refl _
    | cons x l => exact absurd (h x (by simp)) (by omega)
  | n + 1, l, hn, h => by
    by_cases hm : n ∈ l
    · have h1 := nodup_len n (l.erase n) (hn.erase n) (fun x hx => by
        have h2 := (hn.mem_erase_iff).1 hx
        have h3 := h x h2.2
        have := h2.1
        omega)
      rw [List.length_erase_of_mem hm] at h1
      omega
    · have h1 := nodup_len n l hn (fun x hx => by
        have h3 := h x hx
        by_cases e : x = n
        · subst e; exact absurd hx hm
        · omega)
      omega
/-- The symbols of a group are few. -/
theorem GInv.few {f : Nat → Nat} {s : HS} {l : List Grp} (h : GInv s l) (hf : Fit (full f) s) {g : Grp} (hg : g ∈ l) : (∀ x ∈ g.all, x < 257) ∧ g.all.length ≤ 257 := by
  obtain ⟨h1, h2, h3, h4, h5⟩ := h.mem g hg
  have hx : ∀ x ∈ g.all, x < 257 := fun x hx => by
    by_cases e : x < 257
    · exact e
    · have := (hf.out x (full_out f x (by omega))).1
      have := (h5 x).1 hx
      omega
  exact ⟨hx, nodup_len 257 _ h4 hx⟩
theorem GInv.sum {f : Nat → Nat} {s : HS} {l : List Grp} (h : GInv s l) (hf : Fit (full f) s) (hb : ∀ i, i < 256 → f i ≤ 1099511627776) {a b : Nat} (ha : a < l.length) (hb' : b < l.length) (hab : a ≠ b) : (gat l a).n + (gat l b).n < 1000000000000000 := by
  obtain ⟨a1, a2, _⟩ := h.mem _ (gat_mem ha)
  obtain ⟨b1, b2, _⟩ := h.mem _ (gat_mem hb')
  have h1 := off_two s.W a1 b1 (fun e => hab (h.same ha hb' e))
  rw [hf.sum, a2, b2] at h1
  have h2 : off (full f) 257 ≤ 1099511627776 * 257 := off_most fun i hi => by
    unfold full
    by_cases h1 : i = 256
    · rw [if_pos h1]; omega
    · rw [if_neg h1]
      by_cases h2 : i < 256
      · rw [if_pos h2]; exact hb i h2
      · rw [if_neg h2]; omega
  omega
theorem cell_below {w w' : World} {a : Addr} {v : Value} (h : w.cell? a = some v) (hb : Below w.heap.size w w') : w'.cell? a = some v := by
  have hl := World.block_lt_of_cell? w a h
  unfold World.cell? at h ⊢
  rw [hb.block a.block hl]
  exact h
theorem below_undrew {b : Nat} {w w' : World} (h : Below b w.drew w') : Below b w w' := ⟨h.os, h.tape, h.output, h.size, h.block⟩
/-- The state behind the making of a group. -/
theorem RS.made {B G : Nat} {fi : Nat → Int} {v : Value} {gs : List Grp} {F N : Nat} {u u0 : Value} {all : List Nat} {L : Nat → Nat} {w w2 w3 w5 : World} (h1 : LS B fi L w w2) (h2 : GL (B + 3) v gs w2) (h3 : BoxG G F N u0 w3) (h4 : OwnN w3.heap.size u all w5)
    (hG : G = w2.heap.size) (hb23 : Below w2.heap.size w2 w3) (hb35 : Below w3.heap.size w3 w5) (hB : B + 2 < G) : RS B G fi v gs F N u all L w (w5.setCell ⟨G, 2, none⟩ u) := by
  have hb : Below w2.heap.size w2 (w5.setCell ⟨G, 2, none⟩ u) := below_cell (hb23.trans (hb35.mono hb23.size)) (by omega) _
  exact ⟨h1.on hb, (h2.below hb).weak (by omega), (h3.on hb35).set2 u, h4.view.but (but_cell G 2 u w5) (h3.on hb35) (by decide), hB⟩
theorem more_upd (L : Nat → Nat) (l : List Nat) (h : l.Nodup) (j x : Nat) (hx : l[j]? = some x) (V : Nat) (hV : V = L x + 1) : upd (more L (l.take j)) x V = more L (l.take (j + 1)) := by
  obtain ⟨h1, h2⟩ := more_step L l h j x hx
  rw [hV, ← h1, h2]
/-- A group is loaded whole. -/
theorem wpList_loadG {ops : Array Oper} {rest : List Oper} {o : Oper} {a : Act} {w : World} {Q : Exit → Act → World → Prop} (hgd : o.guard = none) (x : Operand) (ho : o.op = .load 74 x)
    (g at' : Nat) (hx : a.eval x = .pointer (some ⟨g, at', none⟩)) (c0 c1 c2 : Value) (h0 : w.cell? ⟨g, at', none⟩ = some c0) (h1 : w.cell? ⟨g, at' + 1, none⟩ = some c1) (h2 : w.cell? ⟨g, at' + 2, none⟩ = some c2)
    (h : wpList Try.prog ops Q rest (a.put o.dst (.agg #[c0, c1, c2])) w) : wpList Try.prog ops Q (o :: rest) a w :=
  wpList_load_part hgd 74 x ho g at' 3 hx (fun j => if j = 0 then c0 else if j = 1 then c1 else c2) _ (fun j hj => by
    rcases (by omega : j = 0 ∨ j = 1 ∨ j = 2) with rfl | rfl | rfl
    · exact h0
    · exact h1
    · exact h2) Try.underlying74 rfl (by kernel_rfl) h
end Go.Proofs.Ytlfnjdgfllhepaa
