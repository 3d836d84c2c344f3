/- When two structs are equal; two slices of them. -/
import Derived.Test.YtfohgocdabgbgaaDoorSSeg
import Derived.ChangeKeysEq
import Derived.Deep.DeepCutAuto
namespace Go.Proofs.YtfohgocdabgbgaaDoor
open Go.RowKit

/-! When two structs are equal; two slices of them. -/
/-- One field after the other: each is read, and compared. -/
theorem eqFields_one (d : Nat) (xs ys : Array Value) (f : Field) (fs : List Field) (hn : (f.name != "_") = true) (t : TypeId) (i : Nat) (h : (f.type, f.offset) = (t, i)) (a b : Value) (r : Bool) (w : World)
    (ha : (part t xs i).run Tryd.prog w = .ok a w) (hb : (part t ys i).run Tryd.prog w = .ok b w) (hr : (Op.equalIn d t a b).run Tryd.prog w = .ok r w) (q : Bool) (hq : (Op.eqFields d xs ys fs).run Tryd.prog w = .ok q w) :
    (Op.eqFields d xs ys (f :: fs)).run Tryd.prog w = .ok (r && q) w := by
  simp only [Prod.mk.injEq] at h
  obtain ⟨h1, h2⟩ := h
  have hn' : f.name ≠ "_" := by simpa using hn
  simp only [Op.eqFields, hn', ne_eq, not_false_eq_true, if_true, Sem.run_bind, h1, h2, ha, hb, hr, Result.andThen_ok]
  cases r
  · simp
  · simpa using hq
/-- All fields: a list of what each says. -/
theorem eqFields_all (d : Nat) (xs ys : Array Value) (w : World) : ∀ (fs : List Field) (l : List ((TypeId × Nat) × Bool)), fs.all (fun f => f.name != "_") = true → fs.map (fun f => (f.type, f.offset)) = l.map (·.1) →
    (∀ x ∈ l, ∃ a b, (part x.1.1 xs x.1.2).run Tryd.prog w = .ok a w ∧ (part x.1.1 ys x.1.2).run Tryd.prog w = .ok b w ∧ (Op.equalIn d x.1.1 a b).run Tryd.prog w = .ok x.2 w) →
    (Op.eqFields d xs ys fs).run Tryd.prog w = .ok (l.all (·.2)) w
  | [], [], _, _, _ => by simp [Op.eqFields]
  | [], _ :: _, _, h, _ => by simp at h
  | _ :: _, [], _, h, _ => by simp at h
  | f :: fs, x :: l, hn, h, hx => by
    simp only [List.all_cons, Bool.and_eq_true] at hn
    simp only [List.map_cons, List.cons.injEq] at h
    obtain ⟨a, b, h1, h2, h3⟩ := hx x (by simp)
    exact eqFields_one d xs ys f fs hn.1 x.1.1 x.1.2 h.1 a b x.2 w h1 h2 h3 _ (eqFields_all d xs ys w fs l hn.2 h.2 fun y hy => hx y (by simp [hy]))
theorem int3 {d : Nat} (a b : Int) (w : World) : (Op.equalIn (d + 1) 3 (.int .i64 a) (.int .i64 b)).run Tryd.prog w = .ok (a == b) w := run_equalIn_int w d 3 .i64 _ a b Tryd.underlying3
theorem part3 (xs : Array Value) (i : Nat) (v : Value) (h : xs[i]? = some v) (w : World) : (part 3 xs i).run Tryd.prog w = .ok v w :=
  run_part_plain w (by simp [Program.plainKey, Tryd.underlying3]) h
theorem part4 (xs : Array Value) (i : Nat) (v : Value) (h : xs[i]? = some v) (w : World) : (part 4 xs i).run Tryd.prog w = .ok v w :=
  run_part_plain w (by simp [Program.plainKey, Tryd.underlying4]) h
theorem part9 (xs : Array Value) (i : Nat) (v : Value) (h : xs[i]? = some v) (w : World) : (part 9 xs i).run Tryd.prog w = .ok v w :=
  run_part_plain w (by simp [Program.plainKey, Tryd.underlying9]) h
theorem eqP (a b : PT) : ∃ r, (∀ w, (Op.equalIn 10000 80 (.agg (cellsP a)) (.agg (cellsP b))).run Tryd.prog w = .ok r w) ∧ (r = true ↔ cellsP a = cellsP b) := by
  refine ⟨([((3, 0), a.1 == b.1), ((3, 1), a.2.1 == b.2.1), ((3, 2), a.2.2.1 == b.2.2.1), ((3, 3), a.2.2.2 == b.2.2.2)] : List ((TypeId × Nat) × Bool)).all (·.2), fun w => ?_, by simp [cellsP]⟩
  rw [show (10000 : Nat) = 9997 + 1 + 1 + 1 from rfl, run_equalIn_struct w (9997 + 1 + 1) 80 _ _ (by kernel_rfl) (by kernel_rfl)]
  refine eqFields_all _ _ _ w _ _ (by kernel_rfl) (by kernel_rfl) ?_
  intro x hx
  simp only [List.mem_cons, List.not_mem_nil, or_false] at hx
  rcases hx with rfl | rfl | rfl | rfl
  · exact ⟨_, _, part3 _ 0 _ rfl w, part3 _ 0 _ rfl w, int3 _ _ w⟩
  · exact ⟨_, _, part3 _ 1 _ rfl w, part3 _ 1 _ rfl w, int3 _ _ w⟩
  · exact ⟨_, _, part3 _ 2 _ rfl w, part3 _ 2 _ rfl w, int3 _ _ w⟩
  · exact ⟨_, _, part3 _ 3 _ rfl w, part3 _ 3 _ rfl w, int3 _ _ w⟩
theorem eqK (a b : KT) : ∃ r, (∀ w, (Op.equalIn 10000 117 (.agg (cellsK a)) (.agg (cellsK b))).run Tryd.prog w = .ok r w) ∧ (r = true ↔ cellsK a = cellsK b) := by
  refine ⟨([((3, 0), a.1 == b.1), ((3, 1), a.2.1 == b.2.1), ((3, 2), a.2.2 == b.2.2)] : List ((TypeId × Nat) × Bool)).all (·.2), fun w => ?_, by simp [cellsK]⟩
  rw [show (10000 : Nat) = 9997 + 1 + 1 + 1 from rfl, run_equalIn_struct w (9997 + 1 + 1) 117 _ _ (by kernel_rfl) (by kernel_rfl)]
  refine eqFields_all _ _ _ w _ _ (by kernel_rfl) (by kernel_rfl) ?_
  intro x hx
  simp only [List.mem_cons, List.not_mem_nil, or_false] at hx
  rcases hx with rfl | rfl | rfl
  · exact ⟨_, _, part3 _ 0 _ rfl w, part3 _ 0 _ rfl w, int3 _ _ w⟩
  · exact ⟨_, _, part3 _ 1 _ rfl w, part3 _ 1 _ rfl w, int3 _ _ w⟩
  · exact ⟨_, _, part3 _ 2 _ rfl w, part3 _ 2 _ rfl w, int3 _ _ w⟩
/-- Items of an array, one after the other. -/
theorem eqItems_all (d : Nat) (e : TypeId) (xs ys : Array Value) (g : Nat → Bool) (w : World) : ∀ is : List Nat, (∀ i ∈ is, ∃ a b, (part e xs (i * 1)).run Tryd.prog w = .ok a w ∧ (part e ys (i * 1)).run Tryd.prog w = .ok b w ∧ (Op.equalIn d e a b).run Tryd.prog w = .ok (g i) w) →
    (Op.eqItems d e 1 xs ys is).run Tryd.prog w = .ok (is.all g) w
  | [], _ => by simp [Op.eqItems]
  | i :: is, h => by
    obtain ⟨a, b, h1, h2, h3⟩ := h i (by simp)
    have ih := eqItems_all d e xs ys g w is fun j hj => h j (by simp [hj])
    simp only [Op.eqItems, Sem.run_bind, h1, h2, h3, Result.andThen_ok, List.all_cons]
    cases g i
    · simp
    · simpa using ih
theorem equal_blk (f g : Nat → Int) (w : World) : (Op.equalIn (9997 + 1 + 1) 64 (.agg (blk .u16 f)) (.agg (blk .u16 g))).run Tryd.prog w = .ok ((List.range 64).all fun i => f i == g i) w := by
  obtain ⟨i, hi⟩ : ∃ i, Tryd.prog.info? 63 = some i := Option.isSome_iff_exists.1 (by kernel_rfl)
  rw [run_equalIn_array w (9997 + 1) _ _ Tryd.underlying64 hi, show Tryd.prog.cellsOf 63 = 1 by kernel_rfl]
  refine eqItems_all _ _ _ _ (fun i => f i == g i) w _ fun i hi => ?_
  have h64 : i < 64 := by simpa using hi
  refine ⟨_, _, run_part_plain w (by simp [Program.plainKey, Tryd.underlying63]) (by rw [Nat.mul_one]; exact blk_at _ f i h64), run_part_plain w (by simp [Program.plainKey, Tryd.underlying63]) (by rw [Nat.mul_one]; exact blk_at _ g i h64), ?_⟩
  exact run_equalIn_int w 9997 63 .u16 _ _ _ Tryd.underlying63
theorem blk_eq (K : IntKind) (f g : Nat → Int) : blk K f = blk K g ↔ ∀ i, i < 64 → f i = g i := by
  constructor
  · intro h i hi
    have h1 := blk_at K f i hi
    rw [h, blk_at K g i hi] at h1
    simpa using h1.symm
  · intro h
    apply Array.ext_getElem?
    intro i
    by_cases hi : i < 64
    · rw [blk_at K f i hi, blk_at K g i hi, h i hi]
    · rw [Array.getElem?_eq_none (by rw [blk_size]; omega), Array.getElem?_eq_none (by rw [blk_size]; omega)]
theorem part_range (t : TypeId) (n : Nat) (xs c : Array Value) (i : Nat) {d : TypeDesc} (hu : Tryd.prog.underlying t = some d) (hd : (match d with | .struct _ | .array _ _ => true | _ => false) = true) (hi : (Tryd.prog.info? t).map (·.size) = some n) (h : xs.extract i (i + n) = c) (w : World) : (part t xs i).run Tryd.prog w = .ok (.agg c) w := by
  cases hq : Tryd.prog.info? t with
  | none => simp [hq] at hi
  | some j =>
    have hs : j.size = n := by simpa [hq] using hi
    have hagg : (isAgg t).run Tryd.prog w = .ok true w := by
      unfold isAgg
      rw [Sem.run_bind, run_underlying hu w]
      cases d <;> simp_all
    unfold part
    simp [Sem.run_bind, hagg, sizeOf, typeInfo, hq, hs, h]
theorem cellsQ_eq (a b : QT) : cellsQ a = cellsQ b ↔ a.1 = b.1 ∧ a.2.1 = b.2.1 ∧ blk .u16 a.2.2 = blk .u16 b.2.2 := by
  unfold cellsQ cells67
  constructor
  · intro h
    have h1 := congrArg Array.toList h
    simp only [Array.toList_append, List.cons_append, List.nil_append, List.cons.injEq] at h1
    refine ⟨by simpa using h1.1, by simpa using h1.2.1, ?_⟩
    have := h1.2.2
    rw [← Array.toList_inj]
    exact this
  · rintro ⟨h1, h2, h3⟩
    rw [h1, h2, h3]
theorem cellsQ_0 (x : QT) : (cellsQ x)[0]? = some (.int .i64 x.1) := by
  unfold cellsQ cells67
  rw [Array.getElem?_append_left (by simp)]
  rfl
theorem cellsQ_1 (x : QT) : (cellsQ x)[1]? = some (.bool x.2.1) := by
  unfold cellsQ cells67
  rw [Array.getElem?_append_left (by simp)]
  rfl
theorem cellsQ_at (x : QT) (i : Nat) (hi : i < 64) : (cellsQ x)[2 + i]? = some (.int .u16 (x.2.2 i)) := by
  unfold cellsQ cells67
  rw [Array.getElem?_append_right (by simp)]
  simp only [List.size_toArray, List.length_cons, List.length_nil]
  rw [show 2 + i - (0 + 1 + 1) = i by omega, blk_at _ _ _ hi]
theorem cellsQ_row (x : QT) : (cellsQ x).extract 2 (2 + 64) = blk .u16 x.2.2 := by
  apply Array.ext_getElem?
  intro i
  by_cases hi : i < 64
  · rw [Array.getElem?_extract, blk_at _ _ _ hi, if_pos (by rw [cellsQ_size]; omega), cellsQ_at x i hi]
  · rw [Array.getElem?_eq_none (by rw [Array.size_extract]; omega), Array.getElem?_eq_none (by rw [blk_size]; omega)]
theorem all_blk (f g : Nat → Int) : ((List.range 64).all fun i => f i == g i) = true ↔ blk .u16 f = blk .u16 g := by
  rw [blk_eq, List.all_eq_true]
  generalize 64 = n
  simp only [List.mem_range, beq_iff_eq]
theorem eqQ (a b : QT) : ∃ r, (∀ w, (Op.equalIn 10000 67 (.agg (cellsQ a)) (.agg (cellsQ b))).run Tryd.prog w = .ok r w) ∧ (r = true ↔ cellsQ a = cellsQ b) := by
  obtain ⟨r3, h3⟩ : ∃ r, r = ((List.range 64).all fun i => a.2.2 i == b.2.2 i) := ⟨_, rfl⟩
  refine ⟨([((3, 0), a.1 == b.1), ((4, 1), a.2.1 == b.2.1), ((64, 2), r3)] : List ((TypeId × Nat) × Bool)).all (·.2), fun w => ?_, ?_⟩
  · rw [show (10000 : Nat) = 9997 + 1 + 1 + 1 from rfl, run_equalIn_struct w (9997 + 1 + 1) 67 _ _ (by kernel_rfl) (by kernel_rfl)]
    refine eqFields_all _ _ _ w _ _ (by kernel_rfl) (by kernel_rfl) ?_
    intro x hx'
    simp only [List.mem_cons, List.not_mem_nil, or_false] at hx'
    rcases hx' with rfl | rfl | rfl
    · exact ⟨_, _, part3 _ 0 _ (cellsQ_0 a) w, part3 _ 0 _ (cellsQ_0 b) w, int3 _ _ w⟩
    · exact ⟨_, _, part4 _ 1 _ (cellsQ_1 a) w, part4 _ 1 _ (cellsQ_1 b) w, run_equalIn_bool w _ 4 _ _ Tryd.underlying4⟩
    · exact ⟨_, _, part_range 64 64 _ _ 2 Tryd.underlying64 rfl size64 (cellsQ_row a) w, part_range 64 64 _ _ 2 Tryd.underlying64 rfl size64 (cellsQ_row b) w, by rw [h3]; exact equal_blk _ _ w⟩
  · have h4 := all_blk a.2.2 b.2.2
    rw [← h3] at h4
    rw [cellsQ_eq, ← h4]
    simp
/-- Counts. -/
theorem equal_cnt (f g : Nat → Nat) (w : World) : (Op.equalIn (9997 + 1 + 1) 71 (.agg (cnt f)) (.agg (cnt g))).run Tryd.prog w = .ok ((List.range 16).all fun i => ((f i : Nat) : Int) == ((g i : Nat) : Int)) w := by
  obtain ⟨i, hi⟩ : ∃ i, Tryd.prog.info? 5 = some i := Option.isSome_iff_exists.1 (by kernel_rfl)
  rw [run_equalIn_array w (9997 + 1) _ _ Tryd.underlying71 hi, show Tryd.prog.cellsOf 5 = 1 by kernel_rfl]
  refine eqItems_all _ _ _ _ (fun i => ((f i : Nat) : Int) == ((g i : Nat) : Int)) w _ fun i hi => ?_
  have h16 : i < 16 := by simpa using hi
  refine ⟨_, _, run_part_plain w (by simp [Program.plainKey, Tryd.underlying5]) (by rw [Nat.mul_one]; exact cnt_at f i h16), run_part_plain w (by simp [Program.plainKey, Tryd.underlying5]) (by rw [Nat.mul_one]; exact cnt_at g i h16), ?_⟩
  exact run_equalIn_int w 9997 5 .u8 _ _ _ Tryd.underlying5
theorem cnt_eq (f g : Nat → Nat) : cnt f = cnt g ↔ ∀ i, i < 16 → f i = g i := by
  constructor
  · intro h i hi
    have h1 := cnt_at f i hi
    rw [h, cnt_at g i hi] at h1
    simp only [Option.some.injEq, Value.int.injEq, true_and] at h1
    omega
  · intro h
    apply Array.ext_getElem?
    intro i
    by_cases hi : i < 16
    · rw [cnt_at f i hi, cnt_at g i hi, h i hi]
    · rw [Array.getElem?_eq_none (by rw [cnt_size]; omega), Array.getElem?_eq_none (by rw [cnt_size]; omega)]
theorem all_cnt (f g : Nat → Nat) : ((List.range 16).all fun i => ((f i : Nat) : Int) == ((g i : Nat) : Int)) = true ↔ cnt f = cnt g := by
  rw [cnt_eq, List.all_eq_true]
  generalize 16 = n
  simp only [List.mem_range, beq_iff_eq]
  exact ⟨fun h i hi => by have := h i hi; omega, fun h i hi => by rw [h i hi]⟩
theorem cellsH_row (x : HT) : (cellsH x).extract 2 (2 + 16) = cnt x.2.2.1 := by
  apply Array.ext_getElem?
  intro i
  by_cases hi : i < 16
  · rw [Array.getElem?_extract, cnt_at _ _ hi, if_pos (by rw [cellsH_size]; omega), cellsH_get, if_neg (by omega), if_neg (by omega), if_pos (by omega)]
    rw [show 2 + i - 2 = i by omega]
  · rw [Array.getElem?_eq_none (by rw [Array.size_extract]; omega), Array.getElem?_eq_none (by rw [cnt_size]; omega)]
theorem cellsH_eq (a b : HT) : cellsH a = cellsH b ↔ a.1 = b.1 ∧ a.2.1 = b.2.1 ∧ cnt a.2.2.1 = cnt b.2.2.1 ∧ a.2.2.2 = b.2.2.2 := by
  constructor
  · intro h
    have h0 := cellsH_get a 0
    have h1 := cellsH_get a 1
    have h2 := cellsH_row a
    have h3 := cellsH_get a 18
    rw [h] at h0 h1 h2 h3
    rw [cellsH_get] at h0 h1 h3
    rw [cellsH_row] at h2
    simp at h0 h1 h3
    exact ⟨h0.symm, h1.symm, h2.symm, h3.symm⟩
  · rintro ⟨h1, h2, h3, h4⟩
    unfold cellsH
    rw [h1, h2, h3, h4]
theorem eqH (a b : HT) : ∃ r, (∀ w, (Op.equalIn 10000 74 (.agg (cellsH a)) (.agg (cellsH b))).run Tryd.prog w = .ok r w) ∧ (r = true ↔ cellsH a = cellsH b) := by
  obtain ⟨r3, h3⟩ : ∃ r, r = ((List.range 16).all fun i => ((a.2.2.1 i : Nat) : Int) == ((b.2.2.1 i : Nat) : Int)) := ⟨_, rfl⟩
  refine ⟨([((3, 0), a.1 == b.1), ((3, 1), a.2.1 == b.2.1), ((71, 2), r3), ((9, 18), a.2.2.2.toList == b.2.2.2.toList)] : List ((TypeId × Nat) × Bool)).all (·.2), fun w => ?_, ?_⟩
  · rw [show (10000 : Nat) = 9997 + 1 + 1 + 1 from rfl, run_equalIn_struct w (9997 + 1 + 1) 74 _ _ (by kernel_rfl) (by kernel_rfl)]
    refine eqFields_all _ _ _ w _ _ (by kernel_rfl) (by kernel_rfl) ?_
    intro x hx'
    simp only [List.mem_cons, List.not_mem_nil, or_false] at hx'
    rcases hx' with rfl | rfl | rfl | rfl
    · exact ⟨_, _, part3 _ 0 _ (cellsH_get a 0) w, part3 _ 0 _ (cellsH_get b 0) w, int3 _ _ w⟩
    · exact ⟨_, _, part3 _ 1 _ (cellsH_get a 1) w, part3 _ 1 _ (cellsH_get b 1) w, int3 _ _ w⟩
    · exact ⟨_, _, part_range 71 16 _ _ 2 Tryd.underlying71 rfl (by kernel_rfl) (cellsH_row a) w, part_range 71 16 _ _ 2 Tryd.underlying71 rfl (by kernel_rfl) (cellsH_row b) w, by rw [h3]; exact equal_cnt _ _ w⟩
    · exact ⟨_, _, part9 _ 18 _ (cellsH_get a 18) w, part9 _ 18 _ (cellsH_get b 18) w, run_equalIn_string w _ 9 _ _ Tryd.underlying9⟩
  · have h4 := all_cnt a.2.2.1 b.2.2.1
    rw [← h3] at h4
    rw [cellsH_eq, ← h4]
    simp [ByteArray.toList_eq, ByteArray.ext_iff, Array.ext_iff]
/-! Two slices of structs: whether they are equal. -/
/-- A load of an aggregate in a region that only reads. -/
theorem wpQuiet_load_at {ops : Array Oper} {C : World → Prop} {Q : Act → Prop} {rest : List Oper} {o : Oper} {a : Act} (ty : TypeId) (x : Operand) (ho : o.op = .load ty x) (hw : Region.wanted o (yielded ops a.tmps) = true) {d : TypeDesc} (hu : Tryd.prog.underlying ty = some d) (hd : (match d with | .struct _ | .array _ _ => true | _ => false) = true)
    (g i : Nat) (hx : a.eval x = .pointer (some ⟨g, i, none⟩)) (cs : Array Value) (hi : (Tryd.prog.info? ty).map (·.size) = some cs.size) (hg : ∀ w, C w → ∀ j, j < cs.size → w.cell? ⟨g, i + j, none⟩ = cs[j]?)
    (h : wpQuiet Tryd.prog ops C Q rest (a.put o.dst (.agg cs))) : wpQuiet Tryd.prog ops C Q (o :: rest) a := by
  unfold wpQuiet
  rw [if_pos hw]
  refine ⟨.agg cs, fun w hC => ?_, h⟩
  unfold Oper.quietAt execOp
  simp only [ho, hx, Instr.loadAt, Instr.sureAddr, Sem.run_bind, Sem.run_pure, Result.andThen_ok, run_load_at hu hd hi (hg w hC)]
  exact ⟨rfl, rfl⟩
theorem map_take_eq {α β : Type} (f : α → β) (l m : List α) (k : Nat) (hl : k < l.length) (hm : k < m.length) (h : (l.take k).map f = (m.take k).map f) (he : f l[k] = f m[k]) : (l.take (k + 1)).map f = (m.take (k + 1)).map f := by
  rw [List.take_succ_eq_append_getElem hl, List.take_succ_eq_append_getElem hm, List.map_append, List.map_append, h]
  simp [he]
theorem map_ne {α β : Type} (f : α → β) (l m : List α) (k : Nat) (hl : k < l.length) (hm : k < m.length) (he : f l[k] ≠ f m[k]) : l.map f ≠ m.map f := by
  intro h
  have := congrArg (·[k]?) h
  simp only [List.getElem?_map, List.getElem?_eq_getElem hl, List.getElem?_eq_getElem hm, Option.map_some, Option.some.injEq] at this
  exact he this
theorem guard80 : Tryd.prog.eqGuardType Tryd.prog.depth 80 = false := by kernel_rfl
theorem guard117 : Tryd.prog.eqGuardType Tryd.prog.depth 117 = false := by kernel_rfl
theorem guard67 : Tryd.prog.eqGuardType Tryd.prog.depth 67 = false := by kernel_rfl
theorem guard74 : Tryd.prog.eqGuardType Tryd.prog.depth 74 = false := by kernel_rfl
theorem size80P (x : PT) : (Tryd.prog.info? 80).map (·.size) = some (cellsP x).size := size80
theorem size117K (x : KT) : (Tryd.prog.info? 117).map (·.size) = some (cellsK x).size := by kernel_rfl
theorem size67Q (x : QT) : (Tryd.prog.info? 67).map (·.size) = some (cellsQ x).size := size67 _ _ _
set_option maxHeartbeats 2000000 in
theorem EqualP (v u : Value) (l m : List PT) (w : World) (hl : l.length ≤ 1000000) (hv : RowV 4 cellsP v l w) (hu : RowV 4 cellsP u m w) :
    Calls Tryd.prog 74 #[v, u] w fun e w' => ∃ b, e = .returned (.bool b) ∧ (b = true ↔ l.map cellsP = m.map cellsP) ∧ Below w.heap.size w w' := by
  obtain ⟨p, n, c, rfl, hn⟩ := hv.shape
  obtain ⟨p', n', c', rfl, hn'⟩ := hu.shape
  have HV := Lib.hid hv
  have HU := Lib.hid hu
  have HN := Lib.hid hn
  have HN' := Lib.hid hn'
  have hnl : n ≤ 1000000 := by rw [show n = l.length from hn]; exact hl
  clear hv hu hn hn' hl
  by_cases hne : n = n'
  · subst hne
    go_enter Tryd.func74, Tryd.ntmps74
    go_wp2
    go_loopw [13] (fun i wr => ∃ k : Nat, i = .int .i64 k ∧ k ≤ n ∧ (l.take k).map cellsP = (m.take k).map cellsP ∧ Below w.heap.size w wr) (fun i _ => n - (intOf i).toNat)
    case atStart => exact ⟨0, rfl, Nat.zero_le _, rfl, Below.refl _ _⟩
    case round =>
      obtain ⟨k, rfl, hk, ht, hb⟩ := hrel
      have HT := Lib.hid ht
      have HB := Lib.hid hb
      clear ht hb
      by_cases hlt : k < n
      · have hkl : k < l.length := by rw [← show n = l.length from HN.out]; exact hlt
        have hkm : k < m.length := by rw [← show n = m.length from HN'.out]; exact hlt
        obtain ⟨b, o, d, hvv, hbl, hc⟩ := (HV.out.on cellsP_size HB.out).lies (by omega)
        obtain ⟨b', o', d', hvv', hbl', hc'⟩ := (HU.out.on cellsP_size HB.out).lies (by omega)
        simp only [Value.slice.injEq] at hvv hvv'
        obtain ⟨rfl, hy1, hy2⟩ := hvv
        obtain ⟨rfl, hy3, hy4⟩ := hvv'
        clear hy1 hy2 hy3 hy4
        have HC := Lib.hid (fun j (hj : j < (cellsP l[k]).size) => (show wr.cell? ⟨b, o + k * 4 + j, none⟩ = (cellsP l[k])[j]? from by rw [Nat.add_assoc]; exact hc k hkl j (by rw [cellsP_size] at hj; exact hj)))
        have HC' := Lib.hid (fun j (hj : j < (cellsP m[k]).size) => (show wr.cell? ⟨b', o' + k * 4 + j, none⟩ = (cellsP m[k])[j]? from by rw [Nat.add_assoc]; exact hc' k hkm j (by rw [cellsP_size] at hj; exact hj)))
        obtain ⟨r, hr, hiff⟩ := eqP l[k] m[k]
        have g := guard80
        have HX := Lib.hid (fun h : r = true => map_take_eq cellsP l m k hkl hkm HT.out (hiff.1 h))
        have HY := Lib.hid (fun h : r = false => map_ne cellsP l m k hkl hkm (fun e => by have := hiff.2 e; rw [h] at this; cases this))
        have S1 := Lib.hid (size80P l[k])
        have S2 := Lib.hid (size80P m[k])
        generalize cellsP l[k] = A at *
        generalize cellsP m[k] = A' at *
        clear hiff hc hc' hbl hbl' hkl hkm
        have HB3 := Lib.hid (fun q => HB.out.trans (below_drewN w.heap.size wr q))
        cases r
        · go_wp2
          refine wp_region_quiet_lit (by kernel_rfl) (by kernel_rfl) ?_
          repeat (first
            | refine wpQuiet_load_at 80 _ rfl (by rfl) Tryd.underlying80 rfl b (o + k * 4) rfl A S1.out (by rintro _ ⟨nq, rfl⟩; exact HC.out) ?_
            | refine wpQuiet_load_at 80 _ rfl (by rfl) Tryd.underlying80 rfl b' (o' + k * 4) rfl A' S2.out (by rintro _ ⟨nq, rfl⟩; exact HC'.out) ?_
            | quiet_step (fail))
          refine wpQuiet_nil ?_
          intro _ hw'
          obtain ⟨nq, hw''⟩ := hw'
          subst hw''
          go_wp2
          go_ret
          exact ⟨_, rfl, by simp [show l.map cellsP ≠ m.map cellsP from by first | exact HY.out rfl | exact HY.out trivial], HB3.out nq⟩
        · go_wp2
          refine wp_region_quiet_lit (by kernel_rfl) (by kernel_rfl) ?_
          repeat (first
            | refine wpQuiet_load_at 80 _ rfl (by rfl) Tryd.underlying80 rfl b (o + k * 4) rfl A S1.out (by rintro _ ⟨nq, rfl⟩; exact HC.out) ?_
            | refine wpQuiet_load_at 80 _ rfl (by rfl) Tryd.underlying80 rfl b' (o' + k * 4) rfl A' S2.out (by rintro _ ⟨nq, rfl⟩; exact HC'.out) ?_
            | quiet_step (fail))
          refine wpQuiet_nil ?_
          intro _ hw'
          obtain ⟨nq, hw''⟩ := hw'
          subst hw''
          go_wp2
          go_roundw
          case rel => exact ⟨k + 1, by go_num, by omega, by first | exact HX.out rfl | exact HX.out trivial, HB3.out nq⟩
          case measure => simp [intOf]; omega
      · obtain rfl : k = n := by omega
        have HF : Hid (l.map cellsP = m.map cellsP) := by
          have := HT.out
          rwa [show k = l.length from HN.out, List.take_length, ← show k = l.length from HN.out, show k = m.length from HN'.out, List.take_length] at this
        go_wp2
        go_ret
        exact ⟨_, rfl, by simp [HF.out], HB.out⟩
  · have e : ((n : Int) != (n' : Int)) = true := by rw [bne_iff_ne]; omega
    have HF : Hid (l.map cellsP ≠ m.map cellsP) := by
      intro h
      have := congrArg List.length h
      rw [List.length_map, List.length_map, ← show n = l.length from HN.out, ← show n' = m.length from HN'.out] at this
      exact hne this
    clear hne
    go_enter Tryd.func74, Tryd.ntmps74
    go_wp2
    go_ret
    exact ⟨_, rfl, by simp [HF.out], Below.refl _ _⟩
set_option maxHeartbeats 2000000 in
theorem EqualK (v u : Value) (l m : List KT) (w : World) (hl : l.length ≤ 1000000) (hv : RowV 3 cellsK v l w) (hu : RowV 3 cellsK u m w) :
    Calls Tryd.prog 75 #[v, u] w fun e w' => ∃ b, e = .returned (.bool b) ∧ (b = true ↔ l.map cellsK = m.map cellsK) ∧ Below w.heap.size w w' := by
  obtain ⟨p, n, c, rfl, hn⟩ := hv.shape
  obtain ⟨p', n', c', rfl, hn'⟩ := hu.shape
  have HV := Lib.hid hv
  have HU := Lib.hid hu
  have HN := Lib.hid hn
  have HN' := Lib.hid hn'
  have hnl : n ≤ 1000000 := by rw [show n = l.length from hn]; exact hl
  clear hv hu hn hn' hl
  by_cases hne : n = n'
  · subst hne
    go_enter Tryd.func75, Tryd.ntmps75
    go_wp2
    go_loopw [13] (fun i wr => ∃ k : Nat, i = .int .i64 k ∧ k ≤ n ∧ (l.take k).map cellsK = (m.take k).map cellsK ∧ Below w.heap.size w wr) (fun i _ => n - (intOf i).toNat)
    case atStart => exact ⟨0, rfl, Nat.zero_le _, rfl, Below.refl _ _⟩
    case round =>
      obtain ⟨k, rfl, hk, ht, hb⟩ := hrel
      have HT := Lib.hid ht
      have HB := Lib.hid hb
      clear ht hb
      by_cases hlt : k < n
      · have hkl : k < l.length := by rw [← show n = l.length from HN.out]; exact hlt
        have hkm : k < m.length := by rw [← show n = m.length from HN'.out]; exact hlt
        obtain ⟨b, o, d, hvv, hbl, hc⟩ := (HV.out.on cellsK_size HB.out).lies (by omega)
        obtain ⟨b', o', d', hvv', hbl', hc'⟩ := (HU.out.on cellsK_size HB.out).lies (by omega)
        simp only [Value.slice.injEq] at hvv hvv'
        obtain ⟨rfl, hy1, hy2⟩ := hvv
        obtain ⟨rfl, hy3, hy4⟩ := hvv'
        clear hy1 hy2 hy3 hy4
        have HC := Lib.hid (fun j (hj : j < (cellsK l[k]).size) => (show wr.cell? ⟨b, o + k * 3 + j, none⟩ = (cellsK l[k])[j]? from by rw [Nat.add_assoc]; exact hc k hkl j (by rw [cellsK_size] at hj; exact hj)))
        have HC' := Lib.hid (fun j (hj : j < (cellsK m[k]).size) => (show wr.cell? ⟨b', o' + k * 3 + j, none⟩ = (cellsK m[k])[j]? from by rw [Nat.add_assoc]; exact hc' k hkm j (by rw [cellsK_size] at hj; exact hj)))
        obtain ⟨r, hr, hiff⟩ := eqK l[k] m[k]
        have g := guard117
        have HX := Lib.hid (fun h : r = true => map_take_eq cellsK l m k hkl hkm HT.out (hiff.1 h))
        have HY := Lib.hid (fun h : r = false => map_ne cellsK l m k hkl hkm (fun e => by have := hiff.2 e; rw [h] at this; cases this))
        have S1 := Lib.hid (size117K l[k])
        have S2 := Lib.hid (size117K m[k])
        generalize cellsK l[k] = A at *
        generalize cellsK m[k] = A' at *
        clear hiff hc hc' hbl hbl' hkl hkm
        have HB3 := Lib.hid (fun q => HB.out.trans (below_drewN w.heap.size wr q))
        cases r
        · go_wp2
          refine wp_region_quiet_lit (by kernel_rfl) (by kernel_rfl) ?_
          repeat (first
            | refine wpQuiet_load_at 117 _ rfl (by rfl) Tryd.underlying117 rfl b (o + k * 3) rfl A S1.out (by rintro _ ⟨nq, rfl⟩; exact HC.out) ?_
            | refine wpQuiet_load_at 117 _ rfl (by rfl) Tryd.underlying117 rfl b' (o' + k * 3) rfl A' S2.out (by rintro _ ⟨nq, rfl⟩; exact HC'.out) ?_
            | quiet_step (fail))
          refine wpQuiet_nil ?_
          intro _ hw'
          obtain ⟨nq, hw''⟩ := hw'
          subst hw''
          go_wp2
          go_ret
          exact ⟨_, rfl, by simp [show l.map cellsK ≠ m.map cellsK from by first | exact HY.out rfl | exact HY.out trivial], HB3.out nq⟩
        · go_wp2
          refine wp_region_quiet_lit (by kernel_rfl) (by kernel_rfl) ?_
          repeat (first
            | refine wpQuiet_load_at 117 _ rfl (by rfl) Tryd.underlying117 rfl b (o + k * 3) rfl A S1.out (by rintro _ ⟨nq, rfl⟩; exact HC.out) ?_
            | refine wpQuiet_load_at 117 _ rfl (by rfl) Tryd.underlying117 rfl b' (o' + k * 3) rfl A' S2.out (by rintro _ ⟨nq, rfl⟩; exact HC'.out) ?_
            | quiet_step (fail))
          refine wpQuiet_nil ?_
          intro _ hw'
          obtain ⟨nq, hw''⟩ := hw'
          subst hw''
          go_wp2
          go_roundw
          case rel => exact ⟨k + 1, by go_num, by omega, by first | exact HX.out rfl | exact HX.out trivial, HB3.out nq⟩
          case measure => simp [intOf]; omega
      · obtain rfl : k = n := by omega
        have HF : Hid (l.map cellsK = m.map cellsK) := by
          have := HT.out
          rwa [show k = l.length from HN.out, List.take_length, ← show k = l.length from HN.out, show k = m.length from HN'.out, List.take_length] at this
        go_wp2
        go_ret
        exact ⟨_, rfl, by simp [HF.out], HB.out⟩
  · have e : ((n : Int) != (n' : Int)) = true := by rw [bne_iff_ne]; omega
    have HF : Hid (l.map cellsK ≠ m.map cellsK) := by
      intro h
      have := congrArg List.length h
      rw [List.length_map, List.length_map, ← show n = l.length from HN.out, ← show n' = m.length from HN'.out] at this
      exact hne this
    clear hne
    go_enter Tryd.func75, Tryd.ntmps75
    go_wp2
    go_ret
    exact ⟨_, rfl, by simp [HF.out], Below.refl _ _⟩
set_option maxHeartbeats 2000000 in
theorem EqualQ (v u : Value) (l m : List QT) (w : World) (hl : l.length ≤ 1000000) (hv : RowV 66 cellsQ v l w) (hu : RowV 66 cellsQ u m w) :
    Calls Tryd.prog 72 #[v, u] w fun e w' => ∃ b, e = .returned (.bool b) ∧ (b = true ↔ l.map cellsQ = m.map cellsQ) ∧ Below w.heap.size w w' := by
  obtain ⟨p, n, c, rfl, hn⟩ := hv.shape
  obtain ⟨p', n', c', rfl, hn'⟩ := hu.shape
  have HV := Lib.hid hv
  have HU := Lib.hid hu
  have HN := Lib.hid hn
  have HN' := Lib.hid hn'
  have hnl : n ≤ 1000000 := by rw [show n = l.length from hn]; exact hl
  clear hv hu hn hn' hl
  by_cases hne : n = n'
  · subst hne
    go_enter Tryd.func72, Tryd.ntmps72
    go_wp2
    go_loopw [13] (fun i wr => ∃ k : Nat, i = .int .i64 k ∧ k ≤ n ∧ (l.take k).map cellsQ = (m.take k).map cellsQ ∧ Below w.heap.size w wr) (fun i _ => n - (intOf i).toNat)
    case atStart => exact ⟨0, rfl, Nat.zero_le _, rfl, Below.refl _ _⟩
    case round =>
      obtain ⟨k, rfl, hk, ht, hb⟩ := hrel
      have HT := Lib.hid ht
      have HB := Lib.hid hb
      clear ht hb
      by_cases hlt : k < n
      · have hkl : k < l.length := by rw [← show n = l.length from HN.out]; exact hlt
        have hkm : k < m.length := by rw [← show n = m.length from HN'.out]; exact hlt
        obtain ⟨b, o, d, hvv, hbl, hc⟩ := (HV.out.on cellsQ_size HB.out).lies (by omega)
        obtain ⟨b', o', d', hvv', hbl', hc'⟩ := (HU.out.on cellsQ_size HB.out).lies (by omega)
        simp only [Value.slice.injEq] at hvv hvv'
        obtain ⟨rfl, hy1, hy2⟩ := hvv
        obtain ⟨rfl, hy3, hy4⟩ := hvv'
        clear hy1 hy2 hy3 hy4
        have HC := Lib.hid (fun j (hj : j < (cellsQ l[k]).size) => (show wr.cell? ⟨b, o + k * 66 + j, none⟩ = (cellsQ l[k])[j]? from by rw [Nat.add_assoc]; exact hc k hkl j (by rw [cellsQ_size] at hj; exact hj)))
        have HC' := Lib.hid (fun j (hj : j < (cellsQ m[k]).size) => (show wr.cell? ⟨b', o' + k * 66 + j, none⟩ = (cellsQ m[k])[j]? from by rw [Nat.add_assoc]; exact hc' k hkm j (by rw [cellsQ_size] at hj; exact hj)))
        obtain ⟨r, hr, hiff⟩ := eqQ l[k] m[k]
        have g := guard67
        have HX := Lib.hid (fun h : r = true => map_take_eq cellsQ l m k hkl hkm HT.out (hiff.1 h))
        have HY := Lib.hid (fun h : r = false => map_ne cellsQ l m k hkl hkm (fun e => by have := hiff.2 e; rw [h] at this; cases this))
        have S1 := Lib.hid (size67Q l[k])
        have S2 := Lib.hid (size67Q m[k])
        generalize cellsQ l[k] = A at *
        generalize cellsQ m[k] = A' at *
        clear hiff hc hc' hbl hbl' hkl hkm
        have HB3 := Lib.hid (fun q => HB.out.trans (below_drewN w.heap.size wr q))
        cases r
        · go_wp2
          refine wp_region_quiet_lit (by kernel_rfl) (by kernel_rfl) ?_
          repeat (first
            | refine wpQuiet_load_at 67 _ rfl (by rfl) Tryd.underlying67 rfl b (o + k * 66) rfl A S1.out (by rintro _ ⟨nq, rfl⟩; exact HC.out) ?_
            | refine wpQuiet_load_at 67 _ rfl (by rfl) Tryd.underlying67 rfl b' (o' + k * 66) rfl A' S2.out (by rintro _ ⟨nq, rfl⟩; exact HC'.out) ?_
            | quiet_step (fail))
          refine wpQuiet_nil ?_
          intro _ hw'
          obtain ⟨nq, hw''⟩ := hw'
          subst hw''
          go_wp2
          go_ret
          exact ⟨_, rfl, by simp [show l.map cellsQ ≠ m.map cellsQ from by first | exact HY.out rfl | exact HY.out trivial], HB3.out nq⟩
        · go_wp2
          refine wp_region_quiet_lit (by kernel_rfl) (by kernel_rfl) ?_
          repeat (first
            | refine wpQuiet_load_at 67 _ rfl (by rfl) Tryd.underlying67 rfl b (o + k * 66) rfl A S1.out (by rintro _ ⟨nq, rfl⟩; exact HC.out) ?_
            | refine wpQuiet_load_at 67 _ rfl (by rfl) Tryd.underlying67 rfl b' (o' + k * 66) rfl A' S2.out (by rintro _ ⟨nq, rfl⟩; exact HC'.out) ?_
            | quiet_step (fail))
          refine wpQuiet_nil ?_
          intro _ hw'
          obtain ⟨nq, hw''⟩ := hw'
          subst hw''
          go_wp2
          go_roundw
          case rel => exact ⟨k + 1, by go_num, by omega, by first | exact HX.out rfl | exact HX.out trivial, HB3.out nq⟩
          case measure => simp [intOf]; omega
      · obtain rfl : k = n := by omega
        have HF : Hid (l.map cellsQ = m.map cellsQ) := by
          have := HT.out
          rwa [show k = l.length from HN.out, List.take_length, ← show k = l.length from HN.out, show k = m.length from HN'.out, List.take_length] at this
        go_wp2
        go_ret
        exact ⟨_, rfl, by simp [HF.out], HB.out⟩
  · have e : ((n : Int) != (n' : Int)) = true := by rw [bne_iff_ne]; omega
    have HF : Hid (l.map cellsQ ≠ m.map cellsQ) := by
      intro h
      have := congrArg List.length h
      rw [List.length_map, List.length_map, ← show n = l.length from HN.out, ← show n' = m.length from HN'.out] at this
      exact hne this
    clear hne
    go_enter Tryd.func72, Tryd.ntmps72
    go_wp2
    go_ret
    exact ⟨_, rfl, by simp [HF.out], Below.refl _ _⟩
set_option maxHeartbeats 2000000 in
theorem EqualH (v u : Value) (l m : List HT) (w : World) (hl : l.length ≤ 1000000) (hv : RowV 19 cellsH v l w) (hu : RowV 19 cellsH u m w) :
    Calls Tryd.prog 73 #[v, u] w fun e w' => ∃ b, e = .returned (.bool b) ∧ (b = true ↔ l.map cellsH = m.map cellsH) ∧ Below w.heap.size w w' := by
  obtain ⟨p, n, c, rfl, hn⟩ := hv.shape
  obtain ⟨p', n', c', rfl, hn'⟩ := hu.shape
  have HV := Lib.hid hv
  have HU := Lib.hid hu
  have HN := Lib.hid hn
  have HN' := Lib.hid hn'
  have hnl : n ≤ 1000000 := by rw [show n = l.length from hn]; exact hl
  clear hv hu hn hn' hl
  by_cases hne : n = n'
  · subst hne
    go_enter Tryd.func73, Tryd.ntmps73
    go_wp2
    go_loopw [13] (fun i wr => ∃ k : Nat, i = .int .i64 k ∧ k ≤ n ∧ (l.take k).map cellsH = (m.take k).map cellsH ∧ Below w.heap.size w wr) (fun i _ => n - (intOf i).toNat)
    case atStart => exact ⟨0, rfl, Nat.zero_le _, rfl, Below.refl _ _⟩
    case round =>
      obtain ⟨k, rfl, hk, ht, hb⟩ := hrel
      have HT := Lib.hid ht
      have HB := Lib.hid hb
      clear ht hb
      by_cases hlt : k < n
      · have hkl : k < l.length := by rw [← show n = l.length from HN.out]; exact hlt
        have hkm : k < m.length := by rw [← show n = m.length from HN'.out]; exact hlt
        obtain ⟨b, o, d, hvv, hbl, hc⟩ := (HV.out.on cellsH_size HB.out).lies (by omega)
        obtain ⟨b', o', d', hvv', hbl', hc'⟩ := (HU.out.on cellsH_size HB.out).lies (by omega)
        simp only [Value.slice.injEq] at hvv hvv'
        obtain ⟨rfl, hy1, hy2⟩ := hvv
        obtain ⟨rfl, hy3, hy4⟩ := hvv'
        clear hy1 hy2 hy3 hy4
        have HC := Lib.hid (fun j (hj : j < (cellsH l[k]).size) => (show wr.cell? ⟨b, o + k * 19 + j, none⟩ = (cellsH l[k])[j]? from by rw [Nat.add_assoc]; exact hc k hkl j (by rw [cellsH_size] at hj; exact hj)))
        have HC' := Lib.hid (fun j (hj : j < (cellsH m[k]).size) => (show wr.cell? ⟨b', o' + k * 19 + j, none⟩ = (cellsH m[k])[j]? from by rw [Nat.add_assoc]; exact hc' k hkm j (by rw [cellsH_size] at hj; exact hj)))
        obtain ⟨r, hr, hiff⟩ := eqH l[k] m[k]
        have g := guard74
        have HX := Lib.hid (fun h : r = true => map_take_eq cellsH l m k hkl hkm HT.out (hiff.1 h))
        have HY := Lib.hid (fun h : r = false => map_ne cellsH l m k hkl hkm (fun e => by have := hiff.2 e; rw [h] at this; cases this))
        have S1 := Lib.hid (size74 l[k])
        have S2 := Lib.hid (size74 m[k])
        generalize cellsH l[k] = A at *
        generalize cellsH m[k] = A' at *
        clear hiff hc hc' hbl hbl' hkl hkm
        have HB3 := Lib.hid (fun q => HB.out.trans (below_drewN w.heap.size wr q))
        cases r
        · go_wp2
          refine wp_region_quiet_lit (by kernel_rfl) (by kernel_rfl) ?_
          repeat (first
            | refine wpQuiet_load_at 74 _ rfl (by rfl) Tryd.underlying74 rfl b (o + k * 19) rfl A S1.out (by rintro _ ⟨nq, rfl⟩; exact HC.out) ?_
            | refine wpQuiet_load_at 74 _ rfl (by rfl) Tryd.underlying74 rfl b' (o' + k * 19) rfl A' S2.out (by rintro _ ⟨nq, rfl⟩; exact HC'.out) ?_
            | quiet_step (fail))
          refine wpQuiet_nil ?_
          intro _ hw'
          obtain ⟨nq, hw''⟩ := hw'
          subst hw''
          go_wp2
          go_ret
          exact ⟨_, rfl, by simp [show l.map cellsH ≠ m.map cellsH from by first | exact HY.out rfl | exact HY.out trivial], HB3.out nq⟩
        · go_wp2
          refine wp_region_quiet_lit (by kernel_rfl) (by kernel_rfl) ?_
          repeat (first
            | refine wpQuiet_load_at 74 _ rfl (by rfl) Tryd.underlying74 rfl b (o + k * 19) rfl A S1.out (by rintro _ ⟨nq, rfl⟩; exact HC.out) ?_
            | refine wpQuiet_load_at 74 _ rfl (by rfl) Tryd.underlying74 rfl b' (o' + k * 19) rfl A' S2.out (by rintro _ ⟨nq, rfl⟩; exact HC'.out) ?_
            | quiet_step (fail))
          refine wpQuiet_nil ?_
          intro _ hw'
          obtain ⟨nq, hw''⟩ := hw'
          subst hw''
          go_wp2
          go_roundw
          case rel => exact ⟨k + 1, by go_num, by omega, by first | exact HX.out rfl | exact HX.out trivial, HB3.out nq⟩
          case measure => simp [intOf]; omega
      · obtain rfl : k = n := by omega
        have HF : Hid (l.map cellsH = m.map cellsH) := by
          have := HT.out
          rwa [show k = l.length from HN.out, List.take_length, ← show k = l.length from HN.out, show k = m.length from HN'.out, List.take_length] at this
        go_wp2
        go_ret
        exact ⟨_, rfl, by simp [HF.out], HB.out⟩
  · have e : ((n : Int) != (n' : Int)) = true := by rw [bne_iff_ne]; omega
    have HF : Hid (l.map cellsH ≠ m.map cellsH) := by
      intro h
      have := congrArg List.length h
      rw [List.length_map, List.length_map, ← show n = l.length from HN.out, ← show n' = m.length from HN'.out] at this
      exact hne this
    clear hne
    go_enter Tryd.func73, Tryd.ntmps73
    go_wp2
    go_ret
    exact ⟨_, rfl, by simp [HF.out], Below.refl _ _⟩
/-! Two segments: whether they are alike. -/
theorem eqS (z z' : Int) (s s' : ByteArray) : ∃ r, (∀ w, (Op.equalIn 10000 98 (.agg #[.int .i64 z, .string s]) (.agg #[.int .i64 z', .string s'])).run Tryd.prog w = .ok r w) ∧ (r = true ↔ z = z' ∧ s = s') := by
  refine ⟨([((3, 0), z == z'), ((9, 1), s.toList == s'.toList)] : List ((TypeId × Nat) × Bool)).all (·.2), fun w => ?_, ?_⟩
  · rw [show (10000 : Nat) = 9997 + 1 + 1 + 1 from rfl, run_equalIn_struct w (9997 + 1 + 1) 98 _ _ (by kernel_rfl) (by kernel_rfl)]
    refine eqFields_all _ _ _ w _ _ (by kernel_rfl) (by kernel_rfl) ?_
    intro x hx
    simp only [List.mem_cons, List.not_mem_nil, or_false] at hx
    rcases hx with rfl | rfl
    · exact ⟨_, _, part3 _ 0 _ rfl w, part3 _ 0 _ rfl w, int3 _ _ w⟩
    · exact ⟨_, _, part9 _ 1 _ rfl w, part9 _ 1 _ rfl w, run_equalIn_string w _ 9 _ _ Tryd.underlying9⟩
  · simp [ByteArray.toList_eq, ByteArray.ext_iff, Array.ext_iff]
theorem eqR (z z' : Int) : ∃ r, (∀ w, (Op.equalIn 10000 76 (.agg #[.int .i64 z]) (.agg #[.int .i64 z'])).run Tryd.prog w = .ok r w) ∧ (r = true ↔ z = z') := by
  refine ⟨([((3, 0), z == z')] : List ((TypeId × Nat) × Bool)).all (·.2), fun w => ?_, by simp⟩
  rw [show (10000 : Nat) = 9997 + 1 + 1 + 1 from rfl, run_equalIn_struct w (9997 + 1 + 1) 76 _ _ (by kernel_rfl) (by kernel_rfl)]
  refine eqFields_all _ _ _ w _ _ (by kernel_rfl) (by kernel_rfl) ?_
  intro x hx
  simp only [List.mem_cons, List.not_mem_nil, or_false] at hx
  subst hx
  exact ⟨_, _, part3 _ 0 _ rfl w, part3 _ 0 _ rfl w, int3 _ _ w⟩
set_option maxHeartbeats 2000000 in
set_option maxRecDepth 100000 in
theorem alike_plain (z z' : Int) (s s' : ByteArray) (w : World) : Calls Tryd.prog 54 #[.iface 98 (.agg #[.int .i64 z, .string s]), .iface 98 (.agg #[.int .i64 z', .string s'])] w fun e w' => ∃ b, e = .returned (.bool b) ∧ (b = true ↔ z = z' ∧ s = s') ∧ Below w.heap.size w w' := by
  obtain ⟨r, hr, hiff⟩ := eqS z z' s s'
  have HI := Lib.hid hiff
  have a1 := fun w => yes98 (.agg #[.int .i64 z, .string s]) w
  have a2 := fun w => yes98 (.agg #[.int .i64 z', .string s']) w
  have g : Tryd.prog.eqGuardType Tryd.prog.depth 98 = false := by kernel_rfl
  clear hiff
  go_enter Tryd.func54, Tryd.ntmps54
  go_wp2
  go_ret
  exact ⟨_, rfl, HI.out, (below_new _ _).alloc (by rw [size_alloc]; omega) _⟩
set_option maxHeartbeats 2000000 in
set_option maxRecDepth 100000 in
theorem alike_rest (z z' : Int) (w : World) : Calls Tryd.prog 54 #[.iface 76 (.agg #[.int .i64 z]), .iface 76 (.agg #[.int .i64 z'])] w fun e w' => ∃ b, e = .returned (.bool b) ∧ (b = true ↔ z = z') ∧ Below w.heap.size w w' := by
  obtain ⟨r, hr, hiff⟩ := eqR z z'
  have HI := Lib.hid hiff
  have a0 := fun w => yes76 (.agg #[.int .i64 z]) w
  have a1 := fun w => no98 (t := 76) (by decide) (.agg #[.int .i64 z]) w
  have a2 := fun w => no62 (t := 76) (by decide) (.agg #[.int .i64 z]) w
  have a3 := fun w => no70 (t := 76) (by decide) (.agg #[.int .i64 z]) w
  have a4 := fun w => no44 (t := 76) (by decide) (.agg #[.int .i64 z]) w
  have a5 := fun w => no49 (t := 76) (by decide) (.agg #[.int .i64 z]) w
  have a6 := fun w => yes76 (.agg #[.int .i64 z']) w
  have g : Tryd.prog.eqGuardType Tryd.prog.depth 76 = false := by kernel_rfl
  clear hiff
  go_enter Tryd.func54, Tryd.ntmps54
  go_wp2
  go_ret
  exact ⟨_, rfl, HI.out, (below_new _ _).alloc (by rw [size_alloc]; omega) _⟩
set_option maxHeartbeats 2000000 in
set_option maxRecDepth 100000 in
theorem alike_quants (v u : Value) (l m : List QT) (hl : l.length ≤ 1000000) (w : World) (hv : RowV 66 cellsQ v l w) (hu : RowV 66 cellsQ u m w) :
    Calls Tryd.prog 54 #[.iface 62 (.agg #[v]), .iface 62 (.agg #[u])] w fun e w' => ∃ b, e = .returned (.bool b) ∧ (b = true ↔ l.map cellsQ = m.map cellsQ) ∧ Below w.heap.size w w' := by
  obtain ⟨p, n, c, rfl, hn⟩ := hv.shape
  obtain ⟨p', n', c', rfl, hn'⟩ := hu.shape
  have hb : Below w.heap.size w ((w.alloc (.cells #[.slice p n c] 62)).alloc (.cells #[.slice p' n' c'] 62)) := (below_new _ _).alloc (by rw [size_alloc]; omega) _
  have HC := Lib.hid (EqualQ _ _ l m _ hl (hv.on cellsQ_size hb) (hu.on cellsQ_size hb))
  have HB := Lib.hid hb
  have a1 := fun w => no98 (t := 62) (by decide) (.agg #[.slice p n c]) w
  have a2 := fun w => yes62 (.agg #[.slice p n c]) w
  have a3 := fun w => yes62 (.agg #[.slice p' n' c']) w
  clear hv hu hn hn' hb hl
  go_enter Tryd.func54, Tryd.ntmps54
  go_wp2_with (go_at_call 72; refine HC.out.mono ?_; rintro e w1 ⟨b, rfl, hi, hb⟩; have HI := Lib.hid hi; have HB1 := Lib.hid (HB.out.trans (hb.mono HB.out.size)); clear hi hb HC)
  go_ret
  exact ⟨_, rfl, HI.out, HB1.out⟩
set_option maxHeartbeats 2000000 in
set_option maxRecDepth 100000 in
theorem alike_huffs (v u : Value) (l m : List HT) (hl : l.length ≤ 1000000) (w : World) (hv : RowV 19 cellsH v l w) (hu : RowV 19 cellsH u m w) :
    Calls Tryd.prog 54 #[.iface 70 (.agg #[v]), .iface 70 (.agg #[u])] w fun e w' => ∃ b, e = .returned (.bool b) ∧ (b = true ↔ l.map cellsH = m.map cellsH) ∧ Below w.heap.size w w' := by
  obtain ⟨p, n, c, rfl, hn⟩ := hv.shape
  obtain ⟨p', n', c', rfl, hn'⟩ := hu.shape
  have hb : Below w.heap.size w ((w.alloc (.cells #[.slice p n c] 70)).alloc (.cells #[.slice p' n' c'] 70)) := (below_new _ _).alloc (by rw [size_alloc]; omega) _
  have HC := Lib.hid (EqualH _ _ l m _ hl (hv.on cellsH_size hb) (hu.on cellsH_size hb))
  have HB := Lib.hid hb
  have a1 := fun w => no98 (t := 70) (by decide) (.agg #[.slice p n c]) w
  have a4 := fun w => no62 (t := 70) (by decide) (.agg #[.slice p n c]) w
  have a2 := fun w => yes70 (.agg #[.slice p n c]) w
  have a3 := fun w => yes70 (.agg #[.slice p' n' c']) w
  clear hv hu hn hn' hb hl
  go_enter Tryd.func54, Tryd.ntmps54
  go_wp2_with (go_at_call 73; refine HC.out.mono ?_; rintro e w1 ⟨b, rfl, hi, hb⟩; have HI := Lib.hid hi; have HB1 := Lib.hid (HB.out.trans (hb.mono HB.out.size)); clear hi hb HC)
  go_ret
  exact ⟨_, rfl, HI.out, HB1.out⟩
set_option maxHeartbeats 2000000 in
set_option maxRecDepth 100000 in
theorem alike_frame (z h a z' h' a' : Int) (v u : Value) (l m : List PT) (hl : l.length ≤ 1000000) (w : World) (hv : RowV 4 cellsP v l w) (hu : RowV 4 cellsP u m w) :
    Calls Tryd.prog 54 #[.iface 44 (.agg #[.int .i64 z, .int .i64 h, .int .i64 a, v]), .iface 44 (.agg #[.int .i64 z', .int .i64 h', .int .i64 a', u])] w fun e w' => ∃ b, e = .returned (.bool b) ∧ (b = true ↔ z = z' ∧ h = h' ∧ a = a' ∧ l.map cellsP = m.map cellsP) ∧ Below w.heap.size w w' := by
  obtain ⟨p, n, c, rfl, hn⟩ := hv.shape
  obtain ⟨p', n', c', rfl, hn'⟩ := hu.shape
  have hb : Below w.heap.size w ((w.alloc (.cells #[.int .i64 z, .int .i64 h, .int .i64 a, .slice p n c] 44)).alloc (.cells #[.int .i64 z', .int .i64 h', .int .i64 a', .slice p' n' c'] 44)) := (below_new _ _).alloc (by rw [size_alloc]; omega) _
  have HC := Lib.hid (EqualP _ _ l m _ hl (hv.on cellsP_size hb) (hu.on cellsP_size hb))
  have HB := Lib.hid hb
  have a1 := fun w => no98 (t := 44) (by decide) (.agg #[.int .i64 z, .int .i64 h, .int .i64 a, .slice p n c]) w
  have a4 := fun w => no62 (t := 44) (by decide) (.agg #[.int .i64 z, .int .i64 h, .int .i64 a, .slice p n c]) w
  have a5 := fun w => no70 (t := 44) (by decide) (.agg #[.int .i64 z, .int .i64 h, .int .i64 a, .slice p n c]) w
  have a2 := fun w => yes44 (.agg #[.int .i64 z, .int .i64 h, .int .i64 a, .slice p n c]) w
  have a3 := fun w => yes44 (.agg #[.int .i64 z', .int .i64 h', .int .i64 a', .slice p' n' c']) w
  clear hv hu hn hn' hb hl
  have fin : ∀ {b : Bool} {X Y A C : Prop}, (b = true ↔ C) → X → Y → A → (b = true ↔ X ∧ Y ∧ A ∧ C) := fun h x y a => ⟨fun e => ⟨x, y, a, h.1 e⟩, fun e => h.2 e.2.2.2⟩
  by_cases q1 : z = z'
  · subst q1
    by_cases q2 : h = h'
    · subst q2
      by_cases q3 : a = a'
      · subst q3
        go_enter Tryd.func54, Tryd.ntmps54
        go_wp2_with (go_at_call 74; refine HC.out.mono ?_; rintro e w1 ⟨b, rfl, hi, hb⟩; have HI := Lib.hid hi; have HB1 := Lib.hid (HB.out.trans (hb.mono HB.out.size)); clear hi hb HC)
        go_ret
        exact ⟨_, rfl, fin HI.out (by first | rfl | trivial) (by first | rfl | trivial) (by first | rfl | trivial), HB1.out⟩
      · have e3 : (a == a') = false := by rw [beq_eq_false_iff_ne]; exact q3
        have HQ : Hid (¬ a = a') := q3
        clear q3
        go_enter Tryd.func54, Tryd.ntmps54
        go_wp2
        go_ret
        exact ⟨_, rfl, ⟨fun e => (by cases e), fun e => absurd e.2.2.1 HQ.out⟩, HB.out⟩
    · have e3 : (h == h') = false := by rw [beq_eq_false_iff_ne]; exact q2
      have HQ : Hid (¬ h = h') := q2
      clear q2
      go_enter Tryd.func54, Tryd.ntmps54
      go_wp2
      go_ret
      exact ⟨_, rfl, ⟨fun e => (by cases e), fun e => absurd e.2.1 HQ.out⟩, HB.out⟩
  · have e3 : (z == z') = false := by rw [beq_eq_false_iff_ne]; exact q1
    have HQ : Hid (¬ z = z') := q1
    clear q1
    go_enter Tryd.func54, Tryd.ntmps54
    go_wp2
    go_ret
    exact ⟨_, rfl, ⟨fun e => (by cases e), fun e => absurd e.1 HQ.out⟩, HB.out⟩
set_option maxHeartbeats 2000000 in
set_option maxRecDepth 100000 in
/-- A frame's beginning, and another segment. -/
theorem alike_frame_no (z h a : Int) (v : Value) (l : List PT) (t : TypeId) (x : Value) (ht : t ≠ 44) (w : World) (hv : RowV 4 cellsP v l w) :
    Calls Tryd.prog 54 #[.iface 44 (.agg #[.int .i64 z, .int .i64 h, .int .i64 a, v]), .iface t x] w fun e w' => e = .returned (.bool false) ∧ Below w.heap.size w w' := by
  obtain ⟨p, n, c, rfl, hn⟩ := hv.shape
  have a1 := fun w => no98 (t := 44) (by decide) (.agg #[.int .i64 z, .int .i64 h, .int .i64 a, .slice p n c]) w
  have a4 := fun w => no62 (t := 44) (by decide) (.agg #[.int .i64 z, .int .i64 h, .int .i64 a, .slice p n c]) w
  have a5 := fun w => no70 (t := 44) (by decide) (.agg #[.int .i64 z, .int .i64 h, .int .i64 a, .slice p n c]) w
  have a2 := fun w => yes44 (.agg #[.int .i64 z, .int .i64 h, .int .i64 a, .slice p n c]) w
  have a3 : ∀ w, (Instr.typeAssert (.iface t x) 23 44 true).run Tryd.prog w = .ok (.tuple #[.agg #[.int .i64 0, .int .i64 0, .int .i64 0, .slice none 0 0], .bool false]) w := fun w => no44 ht x w
  clear hv hn ht
  go_enter Tryd.func54, Tryd.ntmps54
  go_wp2
  go_ret
  exact ⟨rfl, (below_new _ _).alloc (by rw [size_alloc]; omega) _⟩
set_option maxHeartbeats 2000000 in
set_option maxRecDepth 100000 in
theorem alike_scan (f t h a f' t' h' a' : Int) (v u : Value) (l m : List KT) (hl : l.length ≤ 1000000) (w : World) (hv : RowV 3 cellsK v l w) (hu : RowV 3 cellsK u m w) (q1 : f = f') (q2 : t = t') (q3 : h = h') (q4 : a = a') :
    Calls Tryd.prog 54 #[.iface 49 (.agg #[v, .int .i64 f, .int .i64 t, .int .i64 h, .int .i64 a]), .iface 49 (.agg #[u, .int .i64 f', .int .i64 t', .int .i64 h', .int .i64 a'])] w fun e w' => ∃ b, e = .returned (.bool b) ∧ (b = true ↔ l.map cellsK = m.map cellsK) ∧ Below w.heap.size w w' := by
  subst q1 q2 q3 q4
  obtain ⟨p, n, c, rfl, hn⟩ := hv.shape
  obtain ⟨p', n', c', rfl, hn'⟩ := hu.shape
  have hb : Below w.heap.size w ((w.alloc (.cells #[.slice p n c, .int .i64 f, .int .i64 t, .int .i64 h, .int .i64 a] 49)).alloc (.cells #[.slice p' n' c', .int .i64 f, .int .i64 t, .int .i64 h, .int .i64 a] 49)) := (below_new _ _).alloc (by rw [size_alloc]; omega) _
  have HC := Lib.hid (EqualK _ _ l m _ hl (hv.on cellsK_size hb) (hu.on cellsK_size hb))
  have HB := Lib.hid hb
  have a1 := fun w => no98 (t := 49) (by decide) (.agg #[.slice p n c, .int .i64 f, .int .i64 t, .int .i64 h, .int .i64 a]) w
  have a4 := fun w => no62 (t := 49) (by decide) (.agg #[.slice p n c, .int .i64 f, .int .i64 t, .int .i64 h, .int .i64 a]) w
  have a5 := fun w => no70 (t := 49) (by decide) (.agg #[.slice p n c, .int .i64 f, .int .i64 t, .int .i64 h, .int .i64 a]) w
  have a6 := fun w => no44 (t := 49) (by decide) (.agg #[.slice p n c, .int .i64 f, .int .i64 t, .int .i64 h, .int .i64 a]) w
  have a2 := fun w => yes49 (.agg #[.slice p n c, .int .i64 f, .int .i64 t, .int .i64 h, .int .i64 a]) w
  have a3 := fun w => yes49 (.agg #[.slice p' n' c', .int .i64 f, .int .i64 t, .int .i64 h, .int .i64 a]) w
  clear hv hu hn hn' hb hl
  go_enter Tryd.func54, Tryd.ntmps54
  go_wp2_with (go_at_call 75; refine HC.out.mono ?_; rintro e w1 ⟨b, rfl, hi, hb⟩; have HI := Lib.hid hi; have HB1 := Lib.hid (HB.out.trans (hb.mono HB.out.size)); clear hi hb HC)
  go_ret
  exact ⟨_, rfl, HI.out, HB1.out⟩
end Go.Proofs.YtfohgocdabgbgaaDoor
