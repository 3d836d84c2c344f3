/- A region that draws its order, by an invariant; and the region 'return F(a), G(a), 0'. -/
import Derived.Test.YtlfnjdgfllhepaaBTab
import Derived.Deep.DeepCutAuto
import Derived.Deep.WholeRow
namespace Go.Proofs.Ytlfnjdgfllhepaa
open Go.RowKit

theorem countP_lt {l : List Nat} {p q : Nat → Bool} (hle : ∀ j, q j = true → p j = true) {i : Nat} (hi : i ∈ l) (hp : p i = true) (hq : q i = false) : l.countP q < l.countP p := by
  induction l with
  | nil => cases hi
  | cons x l ih =>
    have hx : l.countP q ≤ l.countP p := List.countP_mono_left fun j _ h => hle j h
    rcases List.mem_cons.1 hi with rfl | h
    · rw [List.countP_cons_of_pos hp, List.countP_cons_of_neg (by simp [hq])]
      omega
    · have := ih h
      by_cases hqx : q x = true
      · rw [List.countP_cons_of_pos hqx, List.countP_cons_of_pos (hle x hqx)]; omega
      · by_cases hpx : p x = true
        · rw [List.countP_cons_of_pos hpx, List.countP_cons_of_neg hqx]; omega
        · rw [List.countP_cons_of_neg hpx, List.countP_cons_of_neg hqx]; exact this

section
variable {P : Program} {ops : Array Oper} {Q : Exit → Act → World → Prop}
theorem wpAny_inv (I : (Nat → Bool) → Act → World → Prop) (hdep : ∀ (i : Nat) o, ops[i]? = some o → ∀ e ∈ o.after, e.on < i)
    (hstep : ∀ L a w i o, I L a w → ops[i]? = some o → L i = false → (∀ e ∈ o.after, Region.binds .any e = true → L e.on = true) → wpOp P ops Q i (I fun j => if j = i then true else L j) a w)
    (hfin : ∀ L a w, (∀ i, i < ops.size → L i = true) → I L a w → Q .normal a w) :
    ∀ (fuel : Nat) (listed : Array Bool) (a : Act) (w : World), listed.size = ops.size → (List.range ops.size).countP (fun j => !(listed.getD j false)) ≤ fuel → I (fun j => listed.getD j false) a w → wpAny P .any ops Q fuel listed a w := by
  have done : ∀ (listed : Array Bool), listed.size = ops.size → Region.ready .any ops listed = [] → ∀ i, i < ops.size → listed.getD i false = true := by
    intro listed hsz hr i
    induction i using Nat.strongRecOn with
    | _ i ih =>
      intro hi
      by_cases hl : listed.getD i false = true
      · exact hl
      · have hm : i ∈ Region.ready .any ops listed := by
          refine mem_ready.2 ⟨?_, ops[i], by simp [hi], fun e he _ => ?_⟩
          · have h1 : i < listed.size := by omega
            simp [h1] at hl ⊢
            exact hl
          · have h1 := hdep i ops[i] (by simp [hi]) e he
            exact ih e.on h1 (by omega)
        rw [hr] at hm
        cases hm
  intro fuel
  induction fuel with
  | zero =>
    intro listed a w hsz hc hI
    have hall : ∀ i, i < ops.size → listed.getD i false = true := by
      intro i hi
      have h0 := List.countP_eq_zero.1 (Nat.le_zero.1 hc) i (List.mem_range.2 hi)
      simpa using h0
    refine ⟨?_, hfin _ a w hall hI⟩
    refine List.eq_nil_iff_forall_not_mem.2 fun i hi => ?_
    obtain ⟨h1, o, ho, _⟩ := mem_ready.1 hi
    have hlt : i < ops.size := (Array.getElem?_eq_some_iff.1 ho).1
    have h2 := hall i hlt
    have h3 : i < listed.size := by omega
    simp [h3] at h1 h2
    rw [h1] at h2
    cases h2
  | succ fuel ih =>
    intro listed a w hsz hc hI
    refine ⟨fun hr => hfin _ a w (done listed hsz hr) hI, fun i hi => ?_⟩
    obtain ⟨h1, o, ho, hd⟩ := mem_ready.1 hi
    have hlt : i < ops.size := (Array.getElem?_eq_some_iff.1 ho).1
    have h3 : i < listed.size := by omega
    have hLi : listed.getD i false = false := by simp [h3] at h1 ⊢; exact h1
    have hset : (fun j => (listed.setIfInBounds i true).getD j false) = fun j => if j = i then true else listed.getD j false := by
      funext j
      by_cases hj : j = i
      · subst hj; simp [h3]
      · have hj' : i ≠ j := fun e => hj e.symm
        simp [Array.getElem?_setIfInBounds_ne hj', hj]
    have hs : ∀ j, (listed.setIfInBounds i true).getD j false = if j = i then true else listed.getD j false := fun j => congrFun hset j
    refine wpOp_mono (fun a' w' hI' => ih _ a' w' (by simpa using hsz) ?_ (by rw [hset]; exact hI')) (hstep _ a w i o hI ho hLi hd)
    refine Nat.le_of_lt_succ (Nat.lt_of_lt_of_le (countP_lt (fun j hj => ?_) (List.mem_range.2 hlt) ?_ ?_) hc)
    · rw [hs j] at hj
      by_cases hji : j = i
      · rw [if_pos hji] at hj; cases hj
      · rw [if_neg hji] at hj; exact hj
    · rw [hLi]; rfl
    · rw [hs i, if_pos rfl]
      rfl

theorem wp_region_inv {id : Nat} {a : Act} {w : World} (I : (Nat → Bool) → Act → World → Prop) (hm : P.follows .mixedOrders = true) (hdep : ∀ (i : Nat) o, ops[i]? = some o → ∀ e ∈ o.after, e.on < i) (h0 : I (fun _ => false) a w.drew)
    (hstep : ∀ L a w i o, I L a w → ops[i]? = some o → L i = false → (∀ e ∈ o.after, Region.binds .any e = true → L e.on = true) → wpOp P ops Q i (I fun j => if j = i then true else L j) a w)
    (hfin : ∀ L a w, (∀ i, i < ops.size → L i = true) → I L a w → Q .normal a w) : (Code.region id ops true).wp P Q a w := by
  refine wp_region_any hm (wpAny_inv I hdep hstep hfin _ _ _ _ (by simp) ?_ ?_)
  · exact Nat.le_trans List.countP_le_length (by simp)
  · have : (fun j => (Array.replicate ops.size false).getD j false) = fun _ => false := by
      funext j
      by_cases hj : j < ops.size
      · simp [hj]
      · simp [hj]
    rw [this]
    exact h0

/-- Each operation waits for earlier ones alone. -/
def depsB (ops : Array Oper) : Bool := (List.range ops.size).all fun i => match ops[i]? with
  | some o => o.after.all fun e => decide (e.on < i)
  | none => true
theorem deps_of (h : depsB ops = true) : ∀ (i : Nat) o, ops[i]? = some o → ∀ e ∈ o.after, e.on < i := by
  intro i o ho e he
  have hlt : i < ops.size := (Array.getElem?_eq_some_iff.1 ho).1
  have h1 := List.all_eq_true.1 h i (List.mem_range.2 hlt)
  simp only [ho, Array.all_eq_true_iff_forall_mem] at h1
  simpa using h1 e he

/-- One operation that is wanted. -/
theorem wpOp_of {i : Nat} {o : Oper} {K : Act → World → Prop} {a : Act} {w : World} (ho : ops[i]? = some o) (hg : o.guard = none) (h : o.wp P a w K Q) : wpOp P ops Q i K a w := by
  have hw : Region.wanted o (yielded ops a.tmps) = true := by simp [Region.wanted, hg]
  unfold wpOp
  simp only [ho, hw, if_true]
  exact .inl h

theorem wp_call {o : Oper} {K : Act → World → Prop} {a : Act} {w : World} (f : FuncId) (fn : Func) (hf : P.funcs[f]? = some fn) (hn : (fn.name == "runtime.NumGoroutine") = false) (hb : fn.body.isNone = false)
    (xs : Array Operand) (ts : Array TypeId) (ho : o.op = .call { callee := .value (.func f), args := xs, argTypes := ts }) (args : Array Value) (hx : xs.map a.eval = args) (R : Ending → World → Prop) (hC : Calls P f args w R)
    (h : ∀ e w', R e w' → ∃ v, e = .returned v ∧ K (a.put o.dst v) w') : o.wp P a w K Q := by
  have hrun : (callFunc f args).run P w = .ok (.enter f args) w := by
    have hn' : ¬ fn.name = "runtime.NumGoroutine" := by simpa using hn
    have hb' : ¬ fn.body = none := fun h => by rw [h] at hb; cases hb
    simp [callFunc, hf, hn', hb', go_sem]
  unfold Oper.wp
  simp [execOp, ho, resolve, invoke, go_sem]
  rw [hx, hrun, Oper.upon_enter]
  refine hC.mono ?_
  intro e w' hr
  obtain ⟨v, rfl, hk⟩ := h e w' hr
  exact hk

theorem put_swap (a : Act) {s s' : Nat} (v v' : Value) (h : s ≠ s') : (a.put (some s') v').put (some s) v = (a.put (some s) v).put (some s') v' := by
  simp only [Act.put]
  congr 1
  exact Array.setIfInBounds_comm _ _ h.symm
theorem put_same (a : Act) (s : Nat) (v v' : Value) : (a.put (some s) v').put (some s) v = a.put (some s) v := by
  simp [Act.put]
theorem put_size (a : Act) (s : Nat) (v : Value) : (a.put (some s) v).tmps.size = a.tmps.size := by simp [Act.put]
theorem eval_same (a : Act) (s : Nat) (v : Value) (h : s < a.tmps.size) : (a.put (some s) v).eval (.tmp s) = v := by simp [Act.put, Act.eval, h]
theorem eval_ne (a : Act) {s s' : Nat} (v : Value) (h : s ≠ s') : (a.put (some s) v).eval (.tmp s') = a.eval (.tmp s') := by
  simp [Act.put, Act.eval, Array.getElem?_setIfInBounds_ne h]
theorem put_own (a : Act) (s : Nat) : a.put (some s) (a.eval (.tmp s)) = a := by
  cases a with
  | mk tmps defers =>
    simp only [Act.put, Act.eval]
    congr 1
    apply Array.ext_getElem?
    intro i
    rw [Array.getElem?_setIfInBounds]
    by_cases hi : s = i
    · subst hi
      by_cases hs : s < tmps.size
      · simp [hs]
      · simp [hs]
    · simp [hi]
def putA (a : Act) (s0 s1 s2 s3 s4 s5 : Nat) (v0 v1 v2 v3 v4 v5 : Value) : Act := (((((a.put (some s0) v0).put (some s1) v1).put (some s2) v2).put (some s3) v3).put (some s4) v4).put (some s5) v5


theorem wp_assign {P : Program} {o : Oper} {K : Act → World → Prop} {Q : Exit → Act → World → Prop} {a : Act} {w : World} (x : Operand) (ho : o.op = .assign x) (h : K (a.put o.dst (a.eval x)) w) : o.wp P a w K Q := by
  unfold Oper.wp execOp
  simp only [ho, Sem.run_pure]
  exact h
/-- The state of the region 'return F(a), G(a), 0'. -/
structure RetInv (B g1 g2 : Nat) (f : Nat → Int) (C : Nat → Nat) (S : ByteArray) (A : Value → Value → Value → Value → Value → Value → Act) (w0 : World) (L : Nat → Bool) (a : Act) (w : World) (v0 v1 v2 v3 v4 v5 : Value) : Prop where
  act : a = A v0 v1 v2 v3 v4 v5
  low : Below B w0 w
  big : B ≤ w.heap.size
  src : RowN 47 257 g1 f w
  dst : RowC g2 (if L 4 then C else fun _ => 0) w
  h0 : L 0 = true → v0 = .agg (ints 257 f)
  h1 : L 1 = true → v1 = .agg (cnt C)
  h2 : L 2 = true → v2 = .agg (ints 257 f)
  h3 : L 3 = true → v3 = .string S
  h5 : L 5 = true → v4 = .string S
  h6 : L 6 = true → v5 = .int .i64 0
theorem region_ret {id : Nat} {w : World} {Q : Exit → Act → World → Prop} (B g1 g2 : Nat) (f : Nat → Int) (C : Nat → Nat) (S : ByteArray) (A : Value → Value → Value → Value → Value → Value → Act)
    (o0 o1 o2 o3 o4 o5 o6 : Oper) (x0 x2 y1 y3 y4 y6 y5 : Operand) (tsF tsG : Array TypeId) {u0 u1 u2 u3 u4 u5 : Value}
    (hm : Try.prog.follows .mixedOrders = true)
    (hdep : ∀ (i : Nat) o, (#[o0, o1, o2, o3, o4, o5, o6] : Array Oper)[i]? = some o → ∀ e ∈ o.after, e.on < i)
    (p0 : o0.op = .load 47 x0) (p1 : o1.op = .call { callee := .value (.func 19), args := #[y1], argTypes := tsF }) (p2 : o2.op = .load 47 x2) (p3 : o3.op = .call { callee := .value (.func 20), args := #[y3], argTypes := tsG })
    (p4 : o4.op = .store 23 y4 y6) (p5 : o5.op = .assign y5) (p6 : o6.op = .assign (.const (.int .i64 0)))
    (q : o0.guard = none ∧ o1.guard = none ∧ o2.guard = none ∧ o3.guard = none ∧ o4.guard = none ∧ o5.guard = none ∧ o6.guard = none)
    (d1 : ∃ e ∈ o1.after, Region.binds .any e = true ∧ e.on = 0) (d3 : ∃ e ∈ o3.after, Region.binds .any e = true ∧ e.on = 2)
    (d4 : ∃ e ∈ o4.after, Region.binds .any e = true ∧ e.on = 1) (d5 : ∃ e ∈ o5.after, Region.binds .any e = true ∧ e.on = 3)
    (a0 : ∀ v0 v1 v2 v3 v4 v5 v, (A v0 v1 v2 v3 v4 v5).put o0.dst v = A v v1 v2 v3 v4 v5) (a1 : ∀ v0 v1 v2 v3 v4 v5 v, (A v0 v1 v2 v3 v4 v5).put o1.dst v = A v0 v v2 v3 v4 v5)
    (a2 : ∀ v0 v1 v2 v3 v4 v5 v, (A v0 v1 v2 v3 v4 v5).put o2.dst v = A v0 v1 v v3 v4 v5) (a3 : ∀ v0 v1 v2 v3 v4 v5 v, (A v0 v1 v2 v3 v4 v5).put o3.dst v = A v0 v1 v2 v v4 v5)
    (a4 : o4.dst = none) (a5 : ∀ v0 v1 v2 v3 v4 v5 v, (A v0 v1 v2 v3 v4 v5).put o5.dst v = A v0 v1 v2 v3 v v5) (a6 : ∀ v0 v1 v2 v3 v4 v5 v, (A v0 v1 v2 v3 v4 v5).put o6.dst v = A v0 v1 v2 v3 v4 v)
    (b : ∀ v0 v1 v2 v3 v4 v5, (A v0 v1 v2 v3 v4 v5).eval x0 = .pointer (some ⟨g1, 0, none⟩) ∧ (A v0 v1 v2 v3 v4 v5).eval x2 = .pointer (some ⟨g1, 0, none⟩) ∧ (A v0 v1 v2 v3 v4 v5).eval y1 = v0 ∧ (A v0 v1 v2 v3 v4 v5).eval y3 = v2 ∧ (A v0 v1 v2 v3 v4 v5).eval y4 = .pointer (some ⟨g2, 0, none⟩) ∧ (A v0 v1 v2 v3 v4 v5).eval y6 = v1 ∧ (A v0 v1 v2 v3 v4 v5).eval y5 = v3)
    (hg1 : RowN 47 257 g1 f w) (hg2 : RowC g2 (fun _ => 0) w) (hne : g1 ≠ g2) (hB : B ≤ g2)
    (cF : ∀ W, Calls Try.prog 19 #[.agg (ints 257 f)] W fun e w' => e = .returned (.agg (cnt C)) ∧ Below W.heap.size W w')
    (cG : ∀ W, Calls Try.prog 20 #[.agg (ints 257 f)] W fun e w' => e = .returned (.string S) ∧ Below W.heap.size W w')
    (hfin : ∀ v0 v1 v2 v3 w', RowC g2 C w' → Below B w w' → Q .normal (A v0 v1 v2 v3 (.string S) (.int .i64 0)) w') :
    (Code.region id #[o0, o1, o2, o3, o4, o5, o6] true).wp Try.prog Q (A u0 u1 u2 u3 u4 u5) w := by
  obtain ⟨q0, q1, q2, q3, q4, q5, q6⟩ := q
  refine wp_region_inv (fun L a W => ∃ v0 v1 v2 v3 v4 v5, RetInv B g1 g2 f C S A w L a W v0 v1 v2 v3 v4 v5) hm hdep ?_ ?_ ?_
  · refine ⟨u0, u1, u2, u3, u4, u5, rfl, (Below.refl _ _).drew, by have := hg2.lt; show B ≤ w.heap.size; omega, hg1, hg2, ?_, ?_, ?_, ?_, ?_, ?_⟩ <;> intro h <;> cases h
  · rintro L a W i o ⟨v0, v1, v2, v3, v4, v5, rfl, low, big, src, dst, h0, h1, h2, h3, h5, h6⟩ ho hL hd'
    obtain ⟨b0, b2, b1, b3, b4, b6, b5⟩ := b v0 v1 v2 v3 v4 v5
    have hi8 : i < 7 := (Array.getElem?_eq_some_iff.1 ho).1
    have hin := ho
    rcases (by omega : i = 0 ∨ i = 1 ∨ i = 2 ∨ i = 3 ∨ i = 4 ∨ i = 5 ∨ i = 6) with rfl | rfl | rfl | rfl | rfl | rfl | rfl <;> (simp at ho; subst ho)
    · refine wpOp_of hin q0 (wp_load_row 47 x0 p0 g1 b0 47 _ (0, 0) _ src Try.underlying47 rfl (size47i _) ?_)
      rw [a0]
      exact ⟨_, v1, v2, v3, v4, v5, rfl, low, big, src, by simpa using dst, fun _ => rfl, by simpa using h1, by simpa using h2, by simpa using h3, by simpa using h5, by simpa using h6⟩
    · obtain ⟨e, he, hb, hon⟩ := d1
      have hv0 := h0 (by rw [← hon]; exact hd' e he hb)
      refine wpOp_of hin q1 (wp_call 19 _ Try.func19 (by kernel_rfl) (by kernel_rfl) #[y1] tsF p1 #[.agg (ints 257 f)] (by simp only [List.map_toArray, List.map_cons, List.map_nil, b1]; rw [hv0]) _ (cF W) ?_)
      rintro e' W' ⟨rfl, hb'⟩
      refine ⟨_, rfl, ?_⟩
      rw [a1]
      exact ⟨v0, _, v2, v3, v4, v5, rfl, low.trans (hb'.mono big), Nat.le_trans big hb'.size, src.on hb', by simpa using dst.on hb', by simpa using h0, fun _ => rfl, by simpa using h2, by simpa using h3, by simpa using h5, by simpa using h6⟩
    · refine wpOp_of hin q2 (wp_load_row 47 x2 p2 g1 b2 47 _ (0, 0) _ src Try.underlying47 rfl (size47i _) ?_)
      rw [a2]
      exact ⟨v0, v1, _, v3, v4, v5, rfl, low, big, src, by simpa using dst, by simpa using h0, by simpa using h1, fun _ => rfl, by simpa using h3, by simpa using h5, by simpa using h6⟩
    · obtain ⟨e, he, hb, hon⟩ := d3
      have hv2 := h2 (by rw [← hon]; exact hd' e he hb)
      refine wpOp_of hin q3 (wp_call 20 _ Try.func20 (by kernel_rfl) (by kernel_rfl) #[y3] tsG p3 #[.agg (ints 257 f)] (by simp only [List.map_toArray, List.map_cons, List.map_nil, b3]; rw [hv2]) _ (cG W) ?_)
      rintro e' W' ⟨rfl, hb'⟩
      refine ⟨_, rfl, ?_⟩
      rw [a3]
      exact ⟨v0, v1, v2, _, v4, v5, rfl, low.trans (hb'.mono big), Nat.le_trans big hb'.size, src.on hb', by simpa using dst.on hb', by simpa using h0, by simpa using h1, by simpa using h2, fun _ => rfl, by simpa using h5, by simpa using h6⟩
    · obtain ⟨e, he, hb, hon⟩ := d4
      have hv1 := h1 (by rw [← hon]; exact hd' e he hb)
      refine wpOp_of hin q4 (wp_store_row 23 y4 y6 p4 g2 (cnt C) b4 (b6.trans hv1) 23 _ dst (size22 _) ((cnt_size _).trans (cnt_size _).symm) (cnt_one _) ?_)
      rw [a4]
      refine ⟨v0, v1, v2, v3, v4, v5, rfl, below_setRow low hB _, by rw [setRow_size]; exact big, src.otherRow hne _, ?_, by simpa using h0, by simpa using h1, by simpa using h2, by simpa using h3, by simpa using h5, by simpa using h6⟩
      simp
      exact dst.setRow
    · obtain ⟨e, he, hb, hon⟩ := d5
      have hv3 := h3 (by rw [← hon]; exact hd' e he hb)
      refine wpOp_of hin q5 (wp_assign _ p5 ?_)
      rw [b5, a5]
      exact ⟨v0, v1, v2, v3, _, v5, rfl, low, big, src, by simpa using dst, by simpa using h0, by simpa using h1, by simpa using h2, by simpa using h3, fun _ => hv3, by simpa using h6⟩
    · refine wpOp_of hin q6 (wp_assign _ p6 ?_)
      rw [a6]
      exact ⟨v0, v1, v2, v3, v4, _, rfl, low, big, src, by simpa using dst, by simpa using h0, by simpa using h1, by simpa using h2, by simpa using h3, by simpa using h5, fun _ => rfl⟩
  · rintro L a W hall ⟨v0, v1, v2, v3, v4, v5, rfl, low, big, src, dst, h0, h1, h2, h3, h5, h6⟩
    rw [hall 4 (by simp), if_pos rfl] at dst
    rw [h5 (hall 5 (by simp)), h6 (hall 6 (by simp))]
    exact hfin v0 v1 v2 v3 W dst low
theorem region_ret_at {id : Nat} {w : World} {Q : Exit → Act → World → Prop} {a : Act} (s0 s1 s2 s3 s4 s5 s t : Nat) (B g1 g2 : Nat) (f : Nat → Int) (C : Nat → Nat) (S : ByteArray)
    (o0 o1 o2 o3 o4 o5 o6 : Oper) (tsF tsG : Array TypeId)
    (hm : Try.prog.follows .mixedOrders = true)
    (hdep : ∀ (i : Nat) o, (#[o0, o1, o2, o3, o4, o5, o6] : Array Oper)[i]? = some o → ∀ e ∈ o.after, e.on < i)
    (p0 : o0.op = .load 47 (.tmp s)) (p1 : o1.op = .call { callee := .value (.func 19), args := #[.tmp s0], argTypes := tsF }) (p2 : o2.op = .load 47 (.tmp s)) (p3 : o3.op = .call { callee := .value (.func 20), args := #[.tmp s2], argTypes := tsG })
    (p4 : o4.op = .store 23 (.tmp t) (.tmp s1)) (p5 : o5.op = .assign (.tmp s3)) (p6 : o6.op = .assign (.const (.int .i64 0)))
    (q : o0.guard = none ∧ o1.guard = none ∧ o2.guard = none ∧ o3.guard = none ∧ o4.guard = none ∧ o5.guard = none ∧ o6.guard = none)
    (d1 : ∃ e ∈ o1.after, Region.binds .any e = true ∧ e.on = 0) (d3 : ∃ e ∈ o3.after, Region.binds .any e = true ∧ e.on = 2)
    (d4 : ∃ e ∈ o4.after, Region.binds .any e = true ∧ e.on = 1) (d5 : ∃ e ∈ o5.after, Region.binds .any e = true ∧ e.on = 3)
    (a0 : o0.dst = some s0) (a1 : o1.dst = some s1) (a2 : o2.dst = some s2) (a3 : o3.dst = some s3) (a4 : o4.dst = none) (a5 : o5.dst = some s4) (a6 : o6.dst = some s5)
    (hnd : [s0, s1, s2, s3, s4, s5, s].Nodup) (hnt : t ≠ s0 ∧ t ≠ s1 ∧ t ≠ s2 ∧ t ≠ s3 ∧ t ≠ s4 ∧ t ≠ s5) (hlt : s0 < a.tmps.size ∧ s1 < a.tmps.size ∧ s2 < a.tmps.size ∧ s3 < a.tmps.size ∧ s4 < a.tmps.size ∧ s5 < a.tmps.size)
    (hev : a.eval (.tmp s) = .pointer (some ⟨g1, 0, none⟩)) (hevt : a.eval (.tmp t) = .pointer (some ⟨g2, 0, none⟩))
    (hg1 : RowN 47 257 g1 f w) (hg2 : RowC g2 (fun _ => 0) w) (hne : g1 ≠ g2) (hB : B ≤ g2)
    (cF : ∀ W, Calls Try.prog 19 #[.agg (ints 257 f)] W fun e w' => e = .returned (.agg (cnt C)) ∧ Below W.heap.size W w')
    (cG : ∀ W, Calls Try.prog 20 #[.agg (ints 257 f)] W fun e w' => e = .returned (.string S) ∧ Below W.heap.size W w')
    (hfin : ∀ v0 v1 v2 v3 w', RowC g2 C w' → Below B w w' → Q .normal (putA a s0 s1 s2 s3 s4 s5 v0 v1 v2 v3 (.string S) (.int .i64 0)) w') :
    (Code.region id #[o0, o1, o2, o3, o4, o5, o6] true).wp Try.prog Q a w := by
  simp only [List.nodup_cons, List.mem_cons, List.not_mem_nil, or_false, not_or, not_false_eq_true, List.nodup_nil, and_true] at hnd
  obtain ⟨⟨n01, n02, n03, n04, n05, n0⟩, ⟨n12, n13, n14, n15, n1⟩, ⟨n23, n24, n25, n2⟩, ⟨n34, n35, n3⟩, ⟨n45, n4⟩, n5⟩ := hnd
  obtain ⟨t0, t1, t2, t3, t4, t5⟩ := hnt
  obtain ⟨l0, l1, l2, l3, l4, l5⟩ := hlt
  have hA : a = putA a s0 s1 s2 s3 s4 s5 (a.eval (.tmp s0)) (a.eval (.tmp s1)) (a.eval (.tmp s2)) (a.eval (.tmp s3)) (a.eval (.tmp s4)) (a.eval (.tmp s5)) := by
    unfold putA
    simp only [put_own]
  have key := region_ret (Q := Q) (id := id) (w := w) B g1 g2 f C S (putA a s0 s1 s2 s3 s4 s5) o0 o1 o2 o3 o4 o5 o6 (.tmp s) (.tmp s) (.tmp s0) (.tmp s2) (.tmp t) (.tmp s1) (.tmp s3) tsF tsG
    (u0 := a.eval (.tmp s0)) (u1 := a.eval (.tmp s1)) (u2 := a.eval (.tmp s2)) (u3 := a.eval (.tmp s3)) (u4 := a.eval (.tmp s4)) (u5 := a.eval (.tmp s5)) hm hdep p0 p1 p2 p3 p4 p5 p6 q d1 d3 d4 d5
    (fun v0 v1 v2 v3 v4 v5 v => by rw [a0]; unfold putA; rw [put_swap _ _ _ n05, put_swap _ _ _ n04, put_swap _ _ _ n03, put_swap _ _ _ n02, put_swap _ _ _ n01, put_same])
    (fun v0 v1 v2 v3 v4 v5 v => by rw [a1]; unfold putA; rw [put_swap _ _ _ n15, put_swap _ _ _ n14, put_swap _ _ _ n13, put_swap _ _ _ n12, put_same])
    (fun v0 v1 v2 v3 v4 v5 v => by rw [a2]; unfold putA; rw [put_swap _ _ _ n25, put_swap _ _ _ n24, put_swap _ _ _ n23, put_same])
    (fun v0 v1 v2 v3 v4 v5 v => by rw [a3]; unfold putA; rw [put_swap _ _ _ n35, put_swap _ _ _ n34, put_same]) a4
    (fun v0 v1 v2 v3 v4 v5 v => by rw [a5]; unfold putA; rw [put_swap _ _ _ n45, put_same])
    (fun v0 v1 v2 v3 v4 v5 v => by rw [a6]; unfold putA; rw [put_same])
    (fun v0 v1 v2 v3 v4 v5 => ?_) hg1 hg2 hne hB cF cG hfin
  · rw [← hA] at key
    exact key
  · have hs : (putA a s0 s1 s2 s3 s4 s5 v0 v1 v2 v3 v4 v5).eval (.tmp s) = .pointer (some ⟨g1, 0, none⟩) := by
      unfold putA
      rw [eval_ne _ _ n5, eval_ne _ _ n4, eval_ne _ _ n3, eval_ne _ _ n2, eval_ne _ _ n1, eval_ne _ _ n0, hev]
    refine ⟨hs, hs, ?_, ?_, ?_, ?_, ?_⟩ <;> unfold putA
    · rw [eval_ne _ _ (Ne.symm n05), eval_ne _ _ (Ne.symm n04), eval_ne _ _ (Ne.symm n03), eval_ne _ _ (Ne.symm n02), eval_ne _ _ (Ne.symm n01), eval_same _ _ _ l0]
    · rw [eval_ne _ _ (Ne.symm n25), eval_ne _ _ (Ne.symm n24), eval_ne _ _ (Ne.symm n23), eval_same _ _ _ (by simp only [put_size]; exact l2)]
    · rw [eval_ne _ _ (Ne.symm t5), eval_ne _ _ (Ne.symm t4), eval_ne _ _ (Ne.symm t3), eval_ne _ _ (Ne.symm t2), eval_ne _ _ (Ne.symm t1), eval_ne _ _ (Ne.symm t0), hevt]
    · rw [eval_ne _ _ (Ne.symm n15), eval_ne _ _ (Ne.symm n14), eval_ne _ _ (Ne.symm n13), eval_ne _ _ (Ne.symm n12), eval_same _ _ _ (by simp only [put_size]; exact l1)]
    · rw [eval_ne _ _ (Ne.symm n35), eval_ne _ _ (Ne.symm n34), eval_same _ _ _ (by simp only [put_size]; exact l3)]
end
end Go.Proofs.Ytlfnjdgfllhepaa
