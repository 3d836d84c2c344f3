/- A region that draws its order and only reads, but for one last operation that waits for all others: the order of the text serves. -/
import Derived.Test.YtlfnjdgfllhepaaBInv
namespace Go.Proofs.Ytlfnjdgfllhepaa
open Go.RowKit

/-- The operations, the last one dulled. -/
def dull : List Oper → List Oper
  | [] => []
  | [x] => [⟨x.dst, .assign (.const (.bool true)), x.type, x.pos, x.after, x.guard⟩]
  | o :: p :: l => o :: dull (p :: l)
/-- The last operation waits for all others. -/
def lastB (l : List Oper) : Bool := match l.getLast? with
  | some o => decide (o.guard = none) && decide (o.dst = none) && (List.range (l.length - 1)).all fun i => o.after.any fun e => Region.binds .any e && decide (e.on = i)
  | none => false
theorem dull_length : ∀ l : List Oper, (dull l).length = l.length
  | [] => rfl
  | [_] => rfl
  | _ :: p :: l => congrArg (· + 1) (dull_length (p :: l))
theorem dull_at : ∀ (l : List Oper) (i : Nat), i + 1 < l.length → (dull l)[i]? = l[i]?
  | [], _, h => by simp at h
  | [_], _, h => by simp at h
  | _ :: _ :: _, 0, _ => rfl
  | _ :: p :: l, i + 1, h => by
    show (dull (p :: l))[i]? = (p :: l)[i]?
    exact dull_at (p :: l) i (by simpa using h)
theorem dull_last : ∀ (l : List Oper) (o : Oper), l.getLast? = some o → (dull l)[l.length - 1]? = some { o with op := .assign (.const (.bool true)) } ∧ l[l.length - 1]? = some o
  | [], _, h => by simp at h
  | [_], o, h => by
    simp only [List.getLast?_singleton, Option.some.injEq] at h
    subst h
    exact ⟨rfl, rfl⟩
  | q :: p :: l, o, h => by
    have h' : (p :: l).getLast? = some o := by simpa [List.getLast?_cons_cons] using h
    have ih := dull_last (p :: l) o h'
    have e : (q :: p :: l).length - 1 = ((p :: l).length - 1) + 1 := by simp
    rw [e]
    exact ⟨by simpa [dull] using ih.1, by simpa using ih.2⟩
theorem dull_after (l : List Oper) (i : Nat) : ((dull l)[i]?).map (·.after) = (l[i]?).map (·.after) := by
  by_cases h : i + 1 < l.length
  · rw [dull_at l i h]
  · by_cases h2 : i + 1 = l.length
    · cases hg : l.getLast? with
      | none =>
        rw [List.getLast?_eq_none_iff] at hg
        subst hg
        simp at h2
      | some o =>
        obtain ⟨h3, h4⟩ := dull_last l o hg
        rw [show i = l.length - 1 by omega, h3, h4]
        rfl
    · rw [List.getElem?_eq_none (by rw [dull_length]; omega), List.getElem?_eq_none (by omega)]
theorem dull_dst (l : List Oper) (i : Nat) : ((dull l)[i]?).map (·.dst) = (l[i]?).map (·.dst) := by
  by_cases h : i + 1 < l.length
  · rw [dull_at l i h]
  · by_cases h2 : i + 1 = l.length
    · cases hg : l.getLast? with
      | none =>
        rw [List.getLast?_eq_none_iff] at hg
        subst hg
        simp at h2
      | some o =>
        obtain ⟨h3, h4⟩ := dull_last l o hg
        rw [show i = l.length - 1 by omega, h3, h4]
        rfl
    · rw [List.getElem?_eq_none (by rw [dull_length]; omega), List.getElem?_eq_none (by omega)]
theorem put_none (a : Act) (v : Value) : a.put none v = a := rfl
theorem yielded_dull (l : List Oper) (tmps : Array Value) : yielded (dull l).toArray tmps = yielded l.toArray tmps := by
  funext j
  unfold yielded
  have h := dull_dst l j
  have e : ((dull l).toArray[j]?.bind fun x => x.dst) = (l.toArray[j]?.bind fun x => x.dst) := by
    rw [List.getElem?_toArray, List.getElem?_toArray]
    cases h1 : (dull l)[j]? with
    | none => rw [h1] at h; cases h2 : l[j]? with
      | none => rfl
      | some b => rw [h2] at h; cases h
    | some a => rw [h1] at h; cases h2 : l[j]? with
      | none => rw [h2] at h; cases h
      | some b => rw [h2] at h; exact Option.some.inj h
  rw [e]
theorem ready_dull (md : Region.Mode) (l : List Oper) (listed : Array Bool) : Region.ready md (dull l).toArray listed = Region.ready md l.toArray listed := by
  unfold Region.ready
  simp only [List.size_toArray, dull_length]
  congr 1
  funext i
  have h := dull_after l i
  rw [List.getElem?_toArray, List.getElem?_toArray]
  cases h1 : (dull l)[i]? with
  | none => rw [h1] at h; cases h2 : l[i]? with
    | none => rfl
    | some b => rw [h2] at h; cases h
  | some a => rw [h1] at h; cases h2 : l[i]? with
    | none => rw [h2] at h; cases h
    | some b => rw [h2] at h; have h3 : a.after = b.after := Option.some.inj h; simp only [Option.map_some, h3]

section
variable {P : Program} {md : Region.Mode} {C : World → Prop} {l : List Oper}
theorem done_all (hdep : ∀ (i : Nat) o, l[i]? = some o → ∀ e ∈ o.after, e.on < i) {listed : Array Bool} (hsz : listed.size = l.length) (hr : Region.ready md l.toArray listed = []) (i : Nat) (hi : i < l.length) : listed.getD i false = true := by
  induction i using Nat.strongRecOn with
  | _ i ih =>
    by_cases hl : listed.getD i false = true
    · exact hl
    · have hm : i ∈ Region.ready md l.toArray listed := by
        refine mem_ready.2 ⟨?_, l[i], by simp [hi], fun e he _ => ?_⟩
        · have h1 : i < listed.size := by omega
          simp [h1] at hl ⊢
          exact hl
        · have h1 := hdep i l[i] (by simp [hi]) e he
          exact ih e.on h1 (by omega)
      rw [hr] at hm
      cases hm
theorem ready_none {listed : Array Bool} (h : ∀ i, i < l.length → listed.getD i false = true) : Region.ready md l.toArray listed = [] := by
  refine List.eq_nil_iff_forall_not_mem.2 fun i hi => ?_
  obtain ⟨h1, o, ho, _⟩ := mem_ready.1 hi
  have hlt : i < l.length := by
    have := (Array.getElem?_eq_some_iff.1 ho).1
    simpa using this
  have h2 := h i hlt
  by_cases h3 : i < listed.size
  · simp [h3] at h1 h2
    rw [h1] at h2
    cases h2
  · simp [h3] at h2
theorem qOp_dull {i : Nat} (hi : i + 1 < l.length) {K : Act → Prop} {a : Act} (h : qOp P (dull l).toArray C i K a) : qOp P l.toArray C i K a := by
  unfold qOp at *
  rw [List.getElem?_toArray, dull_at l i hi, yielded_dull] at h
  rw [List.getElem?_toArray]
  exact h
theorem wpAny_last {Q : Exit → Act → World → Prop} {o : Oper} (hl : l.getLast? = some o) (hg : o.guard = none) (hd : o.dst = none) (hdep : ∀ (i : Nat) o, l[i]? = some o → ∀ e ∈ o.after, e.on < i)
    (hlast : ∀ i, i + 1 < l.length → ∃ e ∈ o.after, Region.binds md e = true ∧ e.on = i) :
    ∀ (fuel : Nat) (listed : Array Bool) (a : Act) (w : World), C w → listed.size = l.length → listed.getD (l.length - 1) false = false →
    wpAnyQ P md (dull l).toArray C (fun a' => ∀ w', C w' → o.wp P a' w' (fun a'' w'' => Q .normal a'' w'') Q) fuel listed a → wpAny P md l.toArray Q fuel listed a w := by
  have hpos : 0 < l.length := by
    cases l with
    | nil => simp at hl
    | cons x l => simp
  intro fuel
  induction fuel with
  | zero =>
    intro listed a w _ hsz hun h
    have h1 := done_all hdep hsz (by rw [← ready_dull]; exact h.1) (l.length - 1) (by omega)
    rw [hun] at h1
    cases h1
  | succ fuel ih =>
    intro listed a w hw hsz hun h
    refine ⟨fun hr => ?_, fun i hi => ?_⟩
    · have h1 := done_all hdep hsz hr (l.length - 1) (by omega)
      rw [hun] at h1
      cases h1
    · have hq := h.2 i (by rw [ready_dull]; exact hi)
      obtain ⟨h1, oi, ho, hde⟩ := mem_ready.1 hi
      have hlt : i < l.length := by
        have := (Array.getElem?_eq_some_iff.1 ho).1
        simpa using this
      by_cases hil : i + 1 < l.length
      · refine wpOp_of_qOp hw (fun a' w' hw' hk => ih (listed.setIfInBounds i true) a' w' hw' (by simpa using hsz) ?_ hk) (qOp_dull hil hq)
        rw [Array.getD_eq_getD_getElem?] at hun ⊢
        rw [Array.getElem?_setIfInBounds_ne (show i ≠ l.length - 1 by omega)]
        exact hun
      · obtain rfl : i = l.length - 1 := by omega
        obtain ⟨e1, e2⟩ := dull_last l o hl
        rw [List.getElem?_toArray, e2] at ho
        obtain rfl := Option.some.inj ho
        have hall : ∀ j, j < l.length → (listed.setIfInBounds (l.length - 1) true).getD j false = true := by
          intro j hj
          by_cases hjl : j = l.length - 1
          · subst hjl
            have h3 : l.length - 1 < listed.size := by omega
            simp [h3]
          · obtain ⟨e, he, hb, hon⟩ := hlast j (by omega)
            have h3 := hde e he hb
            rw [hon] at h3
            rw [Array.getD_eq_getD_getElem?] at h3 ⊢
            rw [Array.getElem?_setIfInBounds_ne (show l.length - 1 ≠ j by omega)]
            exact h3
        have hrd : Region.ready md l.toArray (listed.setIfInBounds (l.length - 1) true) = [] := ready_none hall
        unfold qOp at hq
        rw [List.getElem?_toArray, e1] at hq
        simp only [Region.wanted, hg, if_true] at hq
        obtain ⟨v, _, hn⟩ := hq
        rw [hd, put_none] at hn
        have hQ : o.wp P a w (fun a'' w'' => Q .normal a'' w'') Q := by
          cases fuel with
          | zero => exact hn.2 w hw
          | succ fuel => exact hn.1 (by rw [ready_dull]; exact hrd) w hw
        unfold wpOp
        rw [List.getElem?_toArray, e2]
        simp only [Region.wanted, hg, if_true]
        refine .inl (Oper.wp_mono (fun a'' w'' h'' => ?_) hQ)
        cases fuel with
        | zero => exact ⟨hrd, h''⟩
        | succ fuel => exact ⟨fun _ => h'', fun j hj => by rw [hrd] at hj; cases hj⟩
end
/-- Earlier ones alone are waited for; the last one waits for all. -/
def lastOk (l : List Oper) : Bool := lastB l && depsB l.toArray
theorem wp_region_last {P : Program} {id : Nat} {Q : Exit → Act → World → Prop} {a : Act} {w : World} {l : List Oper} (o : Oper) (hl : l.getLast? = some o) (hm : P.follows .mixedOrders = true) (hB : Region.lexB .any (dull l).toArray = true) (hok : lastOk l = true)
    (h : wpQuiet P (dull l).toArray (fun w' => ∃ n, w' = w.drewN n) (fun a' => ∀ w', (∃ n, w' = w.drewN n) → o.wp P a' w' (fun a'' w'' => Q .normal a'' w'') Q) (dull l) a) : (Code.region id l.toArray true).wp P Q a w := by
  simp only [lastOk, lastB, hl, Bool.and_eq_true, decide_eq_true_eq, List.all_eq_true, List.mem_range] at hok
  obtain ⟨⟨⟨hg, hd⟩, hlast⟩, hdep⟩ := hok
  have hdep' := deps_of hdep
  simp only [Region.lexB, Bool.and_eq_true] at hB
  have hpos : 0 < l.length := by
    cases l with
    | nil => simp at hl
    | cons x l => simp
  refine wp_region_any hm (wpAny_last (C := fun w' => ∃ n, w' = w.drewN n) hl hg hd (fun i o ho => hdep' i o (by rw [List.getElem?_toArray]; exact ho)) (fun i hi => ?_) _ _ _ _ ⟨1, rfl⟩ (by simp) ?_ ?_)
  · have := hlast i (by omega)
    rw [Array.any_eq_true] at this
    obtain ⟨j, hj, h1⟩ := this
    simp only [Bool.and_eq_true, decide_eq_true_eq] at h1
    exact ⟨_, Array.getElem_mem hj, h1⟩
  · simp [show l.length - 1 < l.length by omega]
  · have := wpAnyQ_lex (P := P) (C := fun w' => ∃ n, w' = w.drewN n) (md := .any) hB.1 (dull l) 0 (Array.replicate l.length false) a (by simp) (by simpa [dull_length] using hB.2) h
    simpa [dull_length] using this
theorem wp_store_int {o : Oper} {a : Act} {w : World} {K : Act → World → Prop} {Q : Exit → Act → World → Prop} (x y : Operand) (ho : o.op = .store 3 x y) (hd : o.dst = none) (p : Addr) (z : Int) (old : Value)
    (hx : a.eval x = .pointer (some p)) (hy : a.eval y = .int .i64 z) (hc : w.cell? p = some old) (hf : w.frozen? p = false) (h : K a (w.setCell p (.int .i64 z))) : o.wp Try.prog a w K Q := by
  unfold Oper.wp execOp
  simp only [ho, hx, hy, Instr.storeAt, Instr.sureAddr, Sem.run_bind, Sem.run_pure, Result.andThen_ok, storeVar]
  simp [go_sem, hc, hf, stored]
  rw [hd]
  exact h
end Go.Proofs.Ytlfnjdgfllhepaa
