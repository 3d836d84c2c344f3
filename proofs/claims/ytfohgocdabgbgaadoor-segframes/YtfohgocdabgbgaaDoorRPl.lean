/- The document's reader against the program's, plainly: an error stays; one byte, two bytes; lists of tables. -/
import Derived.Test.YtfohgocdabgbgaaDoorSSeg
import Derived.Test.YtfohgocdabgbgaaDoorRBy
namespace Go.Proofs.YtfohgocdabgbgaaDoor
open Go.RowKit

theorem rneed_err {ok : Bool} {x : Nat} {p : Nat × Nat} (h : p.2 ≠ 0) : rneed ok x p = p := if_neg fun e => h e.1
theorem rneed_yes {x : Nat} {p : Nat × Nat} : rneed true x p = p := if_neg fun e => by cases e.2
theorem rneed_no {x : Nat} {p : Nat × Nat} (h : p.2 = 0) : rneed false x p = (p.1, x) := if_pos ⟨h, rfl⟩
theorem rnum_err {s : ByteArray} {m : Nat} {p : Nat × Nat} (h : p.2 ≠ 0) : rnum s m p = (0, p) := if_neg h
theorem rtake_err {s : ByteArray} {m : Nat} {p : Nat × Nat} (h : p.2 ≠ 0) : rtake s m p = (⟨#[]⟩, p) := if_neg h
theorem rnum_out {s : ByteArray} {m i : Nat} (h : s.size < i + m) (hi : i ≤ s.size) : rnum s m (i, 0) = (0, (i, 4)) := by
  unfold rnum
  rw [if_pos rfl, if_pos (by show s.size - i < m; omega)]
theorem ext_list' (s : ByteArray) (a m : Nat) : (s.extract a (a + m)).data.toList = (s.data.toList.drop a).take m := by
  rw [ByteArray.data_extract, Array.toList_extract, List.extract_eq_take_drop]
  congr 1
  omega
theorem rnum_one' {s : ByteArray} {i : Nat} (h : i < s.size) : rnum s 1 (i, 0) = (s[i].toNat, (i + 1, 0)) := by
  unfold rnum
  have hl : i < s.data.toList.length := by simpa using h
  rw [if_pos rfl, if_neg (by show ¬ s.size - i < 1; omega)]
  show (num (s.extract i (i + 1)).data.toList 0, (i + 1, 0)) = _
  rw [ext_list', List.drop_eq_getElem_cons hl]
  simp only [List.take_succ_cons, List.take_zero, num, Nat.zero_mul, Nat.zero_add]
  rfl
theorem rnum_two' {s : ByteArray} {i : Nat} (h : i + 1 < s.size) : rnum s 2 (i, 0) = (s[i].toNat * 256 + s[i + 1].toNat, (i + 2, 0)) := by
  unfold rnum
  have hl : i < s.data.toList.length := by have := h; simp; omega
  have hl2 : i + 1 < s.data.toList.length := by simpa using h
  rw [if_pos rfl, if_neg (by show ¬ s.size - i < 2; omega)]
  show (num (s.extract i (i + 2)).data.toList 0, (i + 2, 0)) = _
  rw [ext_list', List.drop_eq_getElem_cons hl, List.drop_eq_getElem_cons hl2]
  simp only [List.take_succ_cons, List.take_zero, num, Nat.zero_mul, Nat.zero_add]
  rfl
theorem rtab_err {s : ByteArray} {m : Nat} {p : Nat × Nat} (h : p.2 ≠ 0) : ∀ k, rtab s m p k = p
  | 0 => rfl
  | k + 1 => by
    show rneed _ 5 (rnum s m (rtab s m p k)).2 = p
    rw [rtab_err h k, rnum_err h]
    exact rneed_err h
theorem rtab_stop {s : ByteArray} {m : Nat} {p : Nat × Nat} {k : Nat} (h : (rtab s m p k).2 ≠ 0) : ∀ K, k ≤ K → rtab s m p K = rtab s m p k := by
  intro K hK
  induction K with
  | zero => rw [Nat.le_zero.1 hK]
  | succ K ih =>
    by_cases e : k = K + 1
    · rw [e]
    · have := ih (by omega)
      show rneed _ 5 (rnum s m (rtab s m p K)).2 = _
      rw [this, rnum_err h]
      exact rneed_err h
theorem rcs_err {s : ByteArray} {p : Nat × Nat} (h : p.2 ≠ 0) : ∀ k, rcs s p k = p
  | 0 => rfl
  | k + 1 => by
    show (rnum s 1 (rcs s p k)).2 = p
    rw [rcs_err h k, rnum_err h]
theorem rcs_stop {s : ByteArray} {p : Nat × Nat} {k : Nat} (h : (rcs s p k).2 ≠ 0) : ∀ K, k ≤ K → rcs s p K = rcs s p k := by
  intro K hK
  induction K with
  | zero => rw [Nat.le_zero.1 hK]
  | succ K ih =>
    by_cases e : k = K + 1
    · rw [e]
    · have := ih (by omega)
      show (rnum s 1 (rcs s p K)).2 = _
      rw [this, rnum_err h]
/-- The place of a table: behind the end; of a number too great; right. -/
theorem rplace_out {s : ByteArray} {i : Nat} (h : ¬ i < s.size) (hi : i ≤ s.size) : (rplace s (i, 0)).2 = (i, 4) := by
  unfold rplace rpair
  simp only []
  rw [rnum_out (by omega) hi]
  exact rneed_err (by simp)
theorem rplace_in {s : ByteArray} {i : Nat} (h : i < s.size) : rplace s (i, 0) = ((s[i].toNat / 16, s[i].toNat % 16), rneed (decide (s[i].toNat / 16 ≤ 1) && decide (s[i].toNat % 16 ≤ 3)) 5 (i + 1, 0)) := by
  unfold rplace rpair
  simp only []
  rw [rnum_one' h]

/-- Tables told so far: the place is the reader's, it has no error. -/
structure RL {α : Type} (rd : Nat × Nat → α × (Nat × Nat)) (s : ByteArray) (L : List α) (P : Nat × Nat) (f : Nat) (done : List α) (p : Nat × Nat) : Prop where
  ok : p.2 = 0
  le : p.1 ≤ s.size
  all : if p.1 = 0 then L = done ++ (rall rd s p).1 ∧ P = (rall rd s p).2 else L = done ++ (rlist rd s f p).1 ∧ P = (rlist rd s f p).2
  fuel : p.1 ≠ 0 → s.size - p.1 < f
  len : done.length ≤ p.1
section
variable {α : Type} {rd : Nat × Nat → α × (Nat × Nat)} {s : ByteArray} {L : List α} {P : Nat × Nat} {f : Nat} {done : List α} {p : Nat × Nat}
theorem RL.start (hL : (rall rd s (0, 0)).1 = L) (hP : (rall rd s (0, 0)).2 = P) : RL rd s L P 0 [] (0, 0) :=
  ⟨rfl, Nat.zero_le _, by rw [if_pos rfl]; exact ⟨by rw [← hL]; rfl, by rw [← hP]⟩, fun h => absurd rfl h, Nat.zero_le _⟩
theorem rmore_of (h0 : p.2 = 0) (h : p.1 < s.size) : rmore s p = true := by
  unfold rmore
  rw [h0]
  simp
  omega
theorem rmore_err (h0 : p.2 ≠ 0) : rmore s p = false := by
  unfold rmore
  simp [h0]
theorem RL.next (had : Adv rd) (h : RL rd s L P f done p) (hg : p.1 = 0 ∨ p.1 < s.size) (h0 : (rd p).2.2 = 0) (hle : (rd p).2.1 ≤ s.size) :
    ∃ f', RL rd s L P f' (done ++ [(rd p).1]) (rd p).2 := by
  have ha := had p h0
  have hall := h.all
  have hlen := h.len
  by_cases h1 : p.1 = 0
  · rw [if_pos h1] at hall
    refine ⟨s.size + 1, h0, hle, ?_, fun _ => by omega, by rw [List.length_append, List.length_singleton]; omega⟩
    rw [if_neg (by omega), List.append_assoc]
    exact hall
  · rw [if_neg h1] at hall
    have hf := h.fuel h1
    obtain ⟨f', rfl⟩ : ∃ f', f = f' + 1 := ⟨f - 1, by omega⟩
    rw [rlist_yes (rmore_of h.ok (hg.resolve_left h1))] at hall
    refine ⟨f', h0, hle, ?_, fun _ => by omega, by rw [List.length_append, List.length_singleton]; omega⟩
    rw [if_neg (by omega), List.append_assoc]
    exact hall
theorem RL.stop (h : RL rd s L P f done p) (h1 : p.1 ≠ 0) (h2 : ¬ p.1 < s.size) : L = done ∧ P.2 = 0 := by
  have hall := h.all
  rw [if_neg h1, rlist_no (by unfold rmore; rw [h.ok]; simp; omega)] at hall
  exact ⟨by rw [hall.1, List.append_nil], by rw [hall.2]; exact h.ok⟩
theorem RL.fail (h : RL rd s L P f done p) (hg : p.1 = 0 ∨ p.1 < s.size) (h0 : (rd p).2.2 ≠ 0) : P.2 = (rd p).2.2 := by
  have hall := h.all
  by_cases h1 : p.1 = 0
  · rw [if_pos h1] at hall
    rw [hall.2]
    show (rlist rd s (s.size + 1) (rd p).2).2.2 = _
    rw [rlist_no (rmore_err h0)]
  · rw [if_neg h1] at hall
    have hf := h.fuel h1
    obtain ⟨f', rfl⟩ : ∃ f', f = f' + 1 := ⟨f - 1, by omega⟩
    rw [rlist_yes (rmore_of h.ok (hg.resolve_left h1)), rlist_no (rmore_err h0)] at hall
    rw [hall.2]
end
/-- A store of a whole struct into the block made just before: a letter for the world behind. -/
theorem wpList_fresh {ops : Array Oper} {rest : List Oper} {o : Oper} {a : Act} {w : World} {Q : Exit → Act → World → Prop} (hgd : o.guard = none) (ty : TypeId) (x y : Operand) (ho : o.op = .store ty x y)
    (cs old : Array Value) (hx : a.eval x = .pointer (some ⟨w.heap.size, 0, none⟩)) (hy : a.eval y = .agg cs) (hi : (Tryd.prog.info? ty).map (·.size) = some cs.size) (hold : old.size = cs.size) (h1 : cs.all (·.oneCell') = true)
    (h : ∀ w', w'.heap[w.heap.size]? = some (.cells cs ty (0, 0)) → Below w.heap.size w w' → wpList Tryd.prog ops Q rest (a.put o.dst undef) w') : wpList Tryd.prog ops Q (o :: rest) a (w.alloc (.cells old ty)) :=
  wpList_store_row hgd ty x y ho w.heap.size _ hx hy ty old (heap_alloc_new _ _) hi hold h1 (h _ (setRow_heap _ _ _ _ ty (0, 0) (heap_alloc_new _ _)) (below_setRow (below_new _ _) (Nat.le_refl _) _))
/-- What the document's list of tables answers. -/
def ListPost {α : Type} (T : TypeId) (n : Nat) (cs : α → Array Value) (L : List α) (E : Nat) (w : World) (e : Ending) (w' : World) : Prop :=
  ((E = 0 ∧ ∃ v, e = .returned (.tuple #[v, .int .i64 0]) ∧ OwnR T n cs w.heap.size v L w') ∨ (E ≠ 0 ∧ e = .returned (.tuple #[.slice none 0 0, .int .i64 E]))) ∧ Below w.heap.size w w'
end Go.Proofs.YtfohgocdabgbgaaDoor
