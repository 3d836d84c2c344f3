/- A table of codes: its cells; what is read, told plainly. -/
import Derived.Test.YtfohgocdabgbgaaDoorSQuants
import Derived.Test.YtfohgocdabgbgaaDoorHNew
namespace Go.Proofs.YtfohgocdabgbgaaDoor
open Go.RowKit

/-- Such counts and symbols are a table: decided. -/
def rightB (c : Nat → Nat) (y : List UInt8) : Bool := decide (off c 16 = y.length) && (decide (1 ≤ y.length) && (decide (y.length ≤ 256) && (decide y.Nodup && (List.range 16).all fun n => decide (fst c n + c n < 2 ^ (n + 1)))))
theorem rightB_iff (c : Nat → Nat) (y : List UInt8) : rightB c y = true ↔ Right c y := by
  unfold rightB
  simp only [Bool.and_eq_true, decide_eq_true_eq, List.all_eq_true, List.mem_range]
  exact ⟨fun ⟨h1, h2, h3, h4, h5⟩ => ⟨h1, h2, h3, h4, h5⟩, fun h => ⟨h.sum, h.some, h.few, h.once, h.free⟩⟩
/-- The state ahead of the i-th count. -/
def rcs (s : ByteArray) (p : Nat × Nat) : Nat → Nat × Nat
  | 0 => p
  | i + 1 => (rnum s 1 (rcs s p i)).2
/-- The i-th count. -/
def rcnt (s : ByteArray) (p : Nat × Nat) (i : Nat) : Nat := (rnum s 1 (rcs s p i)).1
theorem rcnt_lt (s : ByteArray) (p : Nat × Nat) (i : Nat) : rcnt s p i < 256 := rnum_one s _
abbrev HT := Int × Int × (Nat → Nat) × ByteArray
/-- A table, and the state behind it. -/
def rhuff (s : ByteArray) (p : Nat × Nat) : HT × (Nat × Nat) :=
  let a := rplace s p
  let t := rtake s (off (rcnt s a.2) 16) (rcs s a.2 16)
  (((a.1.1 : Nat), (a.1.2 : Nat), rcnt s a.2, t.1), rneed (rightB (rcnt s a.2) t.1.data.toList) 5 t.2)
theorem rcs_le (s : ByteArray) (p : Nat × Nat) : ∀ k, p.1 ≤ (rcs s p k).1
  | 0 => Nat.le_refl _
  | k + 1 => Nat.le_trans (rcs_le s p k) (rnum_le _ _ _)
theorem rcs_ok (s : ByteArray) (p : Nat × Nat) : ∀ k, (rcs s p k).2 = 0 → p.2 = 0
  | 0, h => h
  | k + 1, h => rcs_ok s p k (rnum_ok h)
theorem rtake_le (s : ByteArray) (m : Nat) (p : Nat × Nat) : p.1 ≤ (rtake s m p).2.1 := by
  unfold rtake
  split
  · split
    · exact Nat.le_refl _
    · exact Nat.le_add_right _ _
  · exact Nat.le_refl _
theorem rtake_ok {s : ByteArray} {m : Nat} {p : Nat × Nat} (h : (rtake s m p).2.2 = 0) : p.2 = 0 := by
  unfold rtake at h
  by_cases h1 : p.2 = 0
  · exact h1
  · rwa [if_neg h1] at h
theorem rhuff_adv (s : ByteArray) : Adv (rhuff s) := by
  intro p h
  unfold rhuff at h ⊢
  simp only [] at h ⊢
  rw [rneed_fst]
  have h1 := rplace_adv s p (rcs_ok _ _ _ (rtake_ok (rneed_ok h)))
  have h2 := rcs_le s (rplace s p).2 16
  have h3 := rtake_le s (off (rcnt s (rplace s p).2) 16) (rcs s (rplace s p).2 16)
  omega
theorem rtake_size (s : ByteArray) (m : Nat) (p : Nat × Nat) : (rtake s m p).1.size ≤ s.size := by
  unfold rtake
  split
  · split
    · exact Nat.zero_le _
    · rw [ByteArray.size_extract]; omega
  · exact Nat.zero_le _

def cellsH (x : HT) : Array Value := ((#[.int .i64 x.1, .int .i64 x.2.1] : Array Value) ++ cnt x.2.2.1).push (.string x.2.2.2)
theorem cellsH_size (x : HT) : (cellsH x).size = 19 := by
  unfold cellsH
  rw [Array.size_push, Array.size_append, cnt_size]
  rfl
theorem cellsH_get (x : HT) (k : Nat) : (cellsH x)[k]? = if k = 0 then some (.int .i64 x.1) else if k = 1 then some (.int .i64 x.2.1) else if k < 18 then some (.int .u8 (x.2.2.1 (k - 2) : Nat)) else if k = 18 then some (.string x.2.2.2) else none := by
  unfold cellsH
  have hs : ((#[.int .i64 x.1, .int .i64 x.2.1] : Array Value) ++ cnt x.2.2.1).size = 18 := by rw [Array.size_append, cnt_size]; rfl
  rw [Array.getElem?_push, hs]
  by_cases h18 : k = 18
  · subst h18; simp
  · rw [if_neg h18, Array.getElem?_append]
    have e2 : (#[.int .i64 x.1, .int .i64 x.2.1] : Array Value).size = 2 := rfl
    rw [e2]
    by_cases h2 : k < 2
    · rw [if_pos h2]
      rcases (by omega : k = 0 ∨ k = 1) with rfl | rfl <;> rfl
    · rw [if_neg h2, if_neg (by omega), if_neg (by omega)]
      by_cases h3 : k < 18
      · rw [if_pos h3, cnt_at _ _ (by omega)]
      · rw [if_neg h3, if_neg h18]
        exact Array.getElem?_eq_none (by rw [cnt_size]; omega)
theorem cellsH_one (x : HT) : (cellsH x).all (·.oneCell') = true := by
  unfold cellsH
  rw [Array.all_push, Array.all_append, cnt_one]
  simp
  exact ⟨⟨rfl, rfl⟩, rfl⟩
/-- The first k counts; the others are 0. -/
def cutk (c : Nat → Nat) (k i : Nat) : Nat := if i < k then c i else 0
theorem cellsH_count (a b : Int) (c : Nat → Nat) (k : Nat) (hk : k < 16) (s : ByteArray) : (cellsH (a, b, cutk c k, s)).setIfInBounds (2 + k) (.int .u8 (c k : Nat)) = cellsH (a, b, cutk c (k + 1), s) := by
  apply Array.ext_getElem?
  intro i
  rw [Array.getElem?_setIfInBounds, cellsH_get, cellsH_get, cellsH_size]
  by_cases h : 2 + k = i
  · subst h
    rw [if_pos rfl, if_pos (by omega), if_neg (by omega), if_neg (by omega), if_pos (by omega)]
    simp [cutk]
  · rw [if_neg h]
    by_cases h0 : i = 0
    · rw [if_pos h0, if_pos h0]
    · rw [if_neg h0, if_neg h0]
      by_cases h1 : i = 1
      · rw [if_pos h1, if_pos h1]
      · rw [if_neg h1, if_neg h1]
        by_cases h2 : i < 18
        · rw [if_pos h2, if_pos h2]
          unfold cutk
          simp only []
          by_cases h3 : i - 2 < k
          · rw [if_pos h3, if_pos (by omega)]
          · rw [if_neg h3, if_neg (by omega)]
        · rw [if_neg h2, if_neg h2]
theorem cellsH_text (a b : Int) (c : Nat → Nat) (s t : ByteArray) : (cellsH (a, b, c, s)).setIfInBounds 18 (.string t) = cellsH (a, b, c, t) := by
  apply Array.ext_getElem?
  intro i
  rw [Array.getElem?_setIfInBounds, cellsH_get, cellsH_get, cellsH_size]
  by_cases h : 18 = i
  · subst h; simp
  · rw [if_neg h]
    simp only []
    rw [if_neg (Ne.symm h), if_neg (Ne.symm h)]
theorem cellsH_first (a b a' b' : Int) (c : Nat → Nat) (s : ByteArray) : ((cellsH (a, b, c, s)).setIfInBounds 0 (.int .i64 a')).setIfInBounds 1 (.int .i64 b') = cellsH (a', b', c, s) := by
  apply Array.ext_getElem?
  intro i
  rw [Array.getElem?_setIfInBounds, Array.getElem?_setIfInBounds, cellsH_get, cellsH_get, Array.size_setIfInBounds, cellsH_size]
  by_cases h1 : i = 1
  · subst h1; simp
  · rw [if_neg (Ne.symm h1)]
    by_cases h0 : i = 0
    · subst h0; simp
    · rw [if_neg (Ne.symm h0), if_neg h0, if_neg h0, if_neg h1, if_neg h1]
theorem cutk_all (c : Nat → Nat) : cnt (cutk c 16) = cnt c := by
  apply Array.ext_getElem?
  intro i
  by_cases h : i < 16
  · rw [cnt_at _ _ h, cnt_at _ _ h]; simp [cutk, h]
  · rw [Array.getElem?_eq_none (by rw [cnt_size]; omega), Array.getElem?_eq_none (by rw [cnt_size]; omega)]
theorem cellsH_all (a b : Int) (c : Nat → Nat) (s : ByteArray) : cellsH (a, b, cutk c 16, s) = cellsH (a, b, c, s) := by unfold cellsH; simp only []; rw [cutk_all]
theorem zero74 : (Tryd.prog.info? 74).map (fun i => (i.zero, i.size, i.bytes)) = some (some (.agg (cellsH (0, 0, fun _ => 0, ⟨#[]⟩))), 19, 48) := by kernel_rfl

/-- A load of an aggregate that lies in such cells. -/
theorem run_load_at {t : TypeId} {d : TypeDesc} (hu : Tryd.prog.underlying t = some d) (hd : (match d with | .struct _ | .array _ _ => true | _ => false) = true) {g o : Nat} {c : Array Value} (hi : (Tryd.prog.info? t).map (·.size) = some c.size) {w : World}
    (hc : ∀ j, j < c.size → w.cell? ⟨g, o + j, none⟩ = c[j]?) : (loadVar t ⟨g, o, none⟩).run Tryd.prog w = .ok (.agg c) w := by
  have hl : (loadCells ⟨g, o, none⟩ c.toList.length).run Tryd.prog w = .ok c.toList.toArray w :=
    run_loadCells_list (P := Tryd.prog) w ⟨g, o, none⟩ c.toList (fun j v hv => by
      have hj : j < c.size := by have := (List.getElem?_eq_some_iff.1 hv).1; simpa using this
      rw [add_none, hc j hj]
      simpa using hv)
  cases hq : Tryd.prog.info? t with
  | none => simp [hq] at hi
  | some i =>
    have hs : i.size = c.size := by simpa [hq] using hi
    have hagg : (isAgg t).run Tryd.prog w = .ok true w := by
      unfold isAgg
      rw [Sem.run_bind, run_underlying hu w]
      cases d <;> simp_all
    simp only [Array.length_toList, Array.toArray_toList] at hl
    simp [loadVar, Sem.run_bind, hagg, sizeOf, typeInfo, hq, hs, hl]
theorem wpList_load_at {ops : Array Oper} {rest : List Oper} {o : Oper} {a : Act} {w : World} {Q : Exit → Act → World → Prop} (hgd : o.guard = none) (t : TypeId) (x : Operand) (ho : o.op = .load t x) {d : TypeDesc} (hu : Tryd.prog.underlying t = some d) (hd : (match d with | .struct _ | .array _ _ => true | _ => false) = true)
    (g i : Nat) (hx : a.eval x = .pointer (some ⟨g, i, none⟩)) (c : Array Value) (hi : (Tryd.prog.info? t).map (·.size) = some c.size)
    (hc : ∀ j, j < c.size → w.cell? ⟨g, i + j, none⟩ = c[j]?) (h : wpList Tryd.prog ops Q rest (a.put o.dst (.agg c)) w) : wpList Tryd.prog ops Q (o :: rest) a w :=
  wpList_plain hgd fun _ hK => by
    unfold Oper.wp execOp
    simp only [ho, hx, Instr.loadAt, Instr.sureAddr, Sem.run_bind, Sem.run_pure, Result.andThen_ok, run_load_at hu hd hi hc]
    exact hK _ _ h
end Go.Proofs.YtfohgocdabgbgaaDoor
