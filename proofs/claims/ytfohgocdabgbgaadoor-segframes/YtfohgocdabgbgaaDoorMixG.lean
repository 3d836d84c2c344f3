/- A region that draws its order, of which many operations only read, or call functions that leave the world as it is: these may be taken first, in the order of the text; what is left is walked as its own order has it. -/
import Derived.Test.YtfohgocdabgbgaaDoorRPl
namespace Go.Proofs.YtfohgocdabgbgaaDoor.G
open Go.RowKit

section
variable {P : Program} {md : Region.Mode} {ops : Array Oper} {C D : World → Prop} {kind : Nat → Nat} {Q : Exit → Act → World → Prop}

theorem let_false : ¬ LetsOut (fun (_ : Exit) (_ : Act) (_ : World) => False) := fun ⟨_, _, h⟩ => h
/-- An operation that ends no other way. -/
theorem wp_of_mute {o : Oper} {a : Act} {w : World} {K K' : Act → World → Prop} {Q' : Exit → Act → World → Prop} (h : ∀ a w, K a w → K' a w) (hh : o.wp P a w K (fun _ _ _ => False)) : o.wp P a w K' Q' := by
  unfold Oper.wp at *
  generalize (execOp a.eval o).run P w = r at *
  cases r with
  | ok n w' =>
    cases n <;> simp only [Oper.upon] at hh ⊢ <;>
      first
        | exact h _ _ hh
        | exact Calls.mono hh (fun e w'' he => by cases e <;> first | exact h _ _ he | exact he.elim | exact (let_false he).elim)
        | exact Rows.mono hh (fun _ _ he => h _ _ he)
  | halt x w' => cases x <;> simp only [Oper.upon] at hh ⊢ <;> exact hh.elim

/-- One operation comes up, and ends no other way. -/
def mOp (P : Program) (ops : Array Oper) (i : Nat) (K : Act → World → Prop) (a : Act) (w : World) : Prop :=
  match ops[i]? with
  | none => K a w
  | some o => if Region.wanted o (yielded ops a.tmps) then o.wp P a w K (fun _ _ _ => False) else K (a.put o.dst undef) w

theorem mOp_mono {i : Nat} {a : Act} {w : World} {K K' : Act → World → Prop} (h : ∀ a w, K a w → K' a w) (hh : mOp P ops i K a w) : mOp P ops i K' a w := by
  unfold mOp at *
  split
  · exact h _ _ (by simpa [*] using hh)
  · rename_i o ho
    simp only [ho] at hh
    split
    · rename_i hw; simp only [hw, if_true] at hh; exact wp_of_mute h hh
    · rename_i hw; simp only [hw] at hh; exact h _ _ hh

theorem wpOp_of_mOp {i : Nat} {a : Act} {w : World} {K K' : Act → World → Prop} {Q' : Exit → Act → World → Prop} (h : ∀ a w, K a w → K' a w) (hh : mOp P ops i K a w) : wpOp P ops Q' i K' a w := by
  unfold mOp at hh
  unfold wpOp
  split
  · exact h _ _ (by simpa [*] using hh)
  · rename_i o ho
    simp only [ho] at hh
    split
    · rename_i hw; simp only [hw, if_true] at hh; exact .inl (wp_of_mute h hh)
    · rename_i hw; simp only [hw] at hh; exact h _ _ hh

/-- Out of the sequential walk of one operation. -/
theorem mOp_list {i : Nat} {o : Oper} {a : Act} {w : World} {K : Act → World → Prop} (ho : ops[i]? = some o) (h : wpList P ops (fun e a w => e = .normal ∧ K a w) [o] a w) : mOp P ops i K a w := by
  unfold mOp
  unfold wpList at h
  simp only [ho]
  split
  · rename_i hw
    rw [if_pos hw] at h
    rcases h with h | ⟨_, _, _, h⟩
    · unfold Oper.wp at *
      generalize (execOp a.eval o).run P w = r at *
      cases r with
      | ok n w' =>
        cases n <;> simp only [Oper.upon] at h ⊢ <;>
          first
            | exact h.2
            | exact Calls.mono h (fun e w'' he => by
                cases e
                · exact he.2
                · cases he.1
                · obtain ⟨_, _, h1⟩ := he; cases h1.1)
            | exact Rows.mono h (fun _ _ he => he.2)
      | halt x w' => cases x <;> simp only [Oper.upon] at h ⊢; cases h.1
    · cases h.1
  · rename_i hw
    rw [if_neg hw] at h
    exact h.2

/-- Whatever order is picked from here on. Of kind 0: the operation keeps the class; of kind 1: it ends no other way; else: as ever. -/
def wpMix (P : Program) (md : Region.Mode) (ops : Array Oper) (C : World → Prop) (kind : Nat → Nat) (Q : Exit → Act → World → Prop) : Nat → Array Bool → Act → World → Prop
  | 0, listed, a, w => Region.ready md ops listed = [] ∧ Q .normal a w
  | fuel + 1, listed, a, w =>
    (Region.ready md ops listed = [] → Q .normal a w) ∧
    ∀ i ∈ Region.ready md ops listed,
      (kind i = 0 → mOp P ops i (fun a' w' => C w' ∧ wpMix P md ops C kind Q fuel (listed.setIfInBounds i true) a' w') a w) ∧
      (kind i = 1 → mOp P ops i (wpMix P md ops C kind Q fuel (listed.setIfInBounds i true)) a w) ∧
      (1 < kind i → wpOp P ops Q i (wpMix P md ops C kind Q fuel (listed.setIfInBounds i true)) a w)

theorem wpAny_of_mix : ∀ (fuel : Nat) (listed : Array Bool) (a : Act) (w : World), wpMix P md ops C kind Q fuel listed a w → wpAny P md ops Q fuel listed a w
  | 0, _, _, _, h => h
  | fuel + 1, _, _, _, h => ⟨h.1, fun i hi => by
      obtain ⟨h0, h1, h2⟩ := h.2 i hi
      rcases (by omega : kind i = 0 ∨ kind i = 1 ∨ 1 < kind i) with hk | hk | hk
      · exact wpOp_of_mOp (fun a' w' h' => wpAny_of_mix fuel _ a' w' h'.2) (h0 hk)
      · exact wpOp_of_mOp (fun a' w' h' => wpAny_of_mix fuel _ a' w' h') (h1 hk)
      · exact wpOp_mono (fun a' w' h' => wpAny_of_mix fuel _ a' w' h') (h2 hk)⟩

/-- In state 'a', in every world of the class, operation 'o' leaves 'v' in its temporary and the world as it is. -/
def YieldsS (P : Program) (ops : Array Oper) (D : World → Prop) (o : Oper) (v : Value) (a : Act) : Prop :=
  (Region.wanted o (yielded ops a.tmps) = true ∧ ∀ w, D w → o.quietAt P a (fun x => x = w) w v) ∨
  (Region.wanted o (yielded ops a.tmps) = false ∧ v = undef)

theorem YieldsS.of_same {o : Oper} {v : Value} {a a' : Act} (hy : YieldsS P ops D o v a) (he : execOp a'.eval o = execOp a.eval o)
    (hw : Region.wanted o (yielded ops a'.tmps) = Region.wanted o (yielded ops a.tmps)) : YieldsS P ops D o v a' := by
  unfold YieldsS Oper.quietAt at *
  rw [he, hw]
  exact hy
theorem YieldsS.mOp {i : Nat} {o : Oper} {v : Value} {a : Act} {w : World} (hi : ops[i]? = some o) (hy : YieldsS P ops D o v a) (hD : D w) {K : Act → World → Prop} (h : K (a.put o.dst v) w) : mOp P ops i K a w := by
  unfold Go.Proofs.YtfohgocdabgbgaaDoor.G.mOp
  simp only [hi]
  rcases hy with ⟨hw, hv⟩ | ⟨hw, rfl⟩
  · simp only [hw, if_true]
    have h1 := hv w hD
    unfold Oper.quietAt at h1
    unfold Oper.wp
    cases hr : (execOp a.eval o).run P w with
    | ok n w' =>
      rw [hr] at h1
      cases n <;> simp only [Oper.quietUpon] at h1
      case value u => obtain ⟨rfl, rfl⟩ := h1; exact h
      case skip => obtain ⟨rfl, rfl⟩ := h1; exact h
      case enter f args =>
        obtain ⟨rfl, h2⟩ := h1
        refine Calls.mono h2 fun e w'' he => ?_
        obtain ⟨rfl, rfl⟩ := he
        exact h
    | halt x w' => rw [hr] at h1; simp only [Oper.quietUpon] at h1
  · simp only [hw, Bool.false_eq_true, if_false]; exact h

theorem put_defers (a : Act) (x : Option Tmp) (v : Value) (d : Deferred) : ({ a.put x v with defers := d :: (a.put x v).defers } : Act) = ({ a with defers := d :: a.defers } : Act).put x v := by
  cases x <;> rfl
theorem eval_defers (a : Act) (d : List Deferred) : ({ a with defers := d } : Act).eval = a.eval := by
  funext x
  cases x <;> rfl

theorem mOp_put {j : Nat} {oi oj : Oper} {v : Value} (hj : ops[j]? = some oj) (hap : oi.apart ops oj = true)
    (hsi : ∀ cs b, oi.op ≠ .select cs b) (hsj : ∀ cs b, oj.op ≠ .select cs b) {K : Act → World → Prop} {a : Act} {w : World}
    (hy : YieldsS P ops D oi v a) (h : mOp P ops j K (a.put oi.dst v) w) :
    mOp P ops j (fun a' w' => YieldsS P ops D oi v a' ∧ K (a'.put oi.dst v) w') a w := by
  obtain ⟨h1, h2, h3⟩ := Oper.apart_spec hap
  have keep : ∀ (a : Act), YieldsS P ops D oi v a → ∀ u, YieldsS P ops D oi v (a.put oj.dst u) := fun a hy u =>
    hy.of_same (execOp_put oi hsi a oj.dst u h3) (wanted_put oi a oj.dst u h3)
  unfold mOp at *
  simp only [hj] at *
  rw [wanted_put oj a oi.dst v h1] at h
  split
  · rename_i hw
    simp only [hw, if_true] at h
    unfold Oper.wp at *
    rw [execOp_put oj hsj a oi.dst v h1] at h
    generalize (execOp a.eval oj).run P w = r at *
    cases r with
    | ok n w' =>
      cases n <;> simp only [Oper.upon] at h ⊢
      case value u => exact ⟨keep a hy u, by rw [← Act.put_comm a v u h2]; exact h⟩
      case skip => exact ⟨keep a hy _, by rw [← Act.put_comm a v undef h2]; exact h⟩
      case defer d =>
        refine ⟨keep { a with defers := d :: a.defers } (hy.of_same (by rw [eval_defers]) rfl) undef, ?_⟩
        rw [← Act.put_comm _ v undef h2, ← put_defers]
        exact h
      case enter f args =>
        refine Calls.mono h fun e w'' he => ?_
        cases e with
        | returned u => exact ⟨keep a hy u, by rw [← Act.put_comm a v u h2]; exact he⟩
        | panicked c => exact he.elim
        | outgrown => exact (let_false he).elim
      case row row args => exact Rows.mono h fun u w'' he => ⟨keep a hy u, by rw [← Act.put_comm a v u h2]; exact he⟩
      all_goals exact h
    | halt x w' => cases x <;> simp only [Oper.upon] at h ⊢
  · rename_i hw
    simp only [hw] at h
    exact ⟨keep a hy _, by rw [← Act.put_comm a v undef h2]; exact h⟩

/-! What an operation waits for, on its way too. -/
def reachB (md : Region.Mode) (ops : Array Oper) : Nat → Nat → Nat → Bool
  | 0, _, _ => false
  | f + 1, j, i => match ops[j]? with
    | some o => (o.after.toList.any fun e => Region.binds md e && decide (e.on = i)) || o.after.toList.any fun e => Region.binds md e && reachB md ops f e.on i
    | none => false
def Closed (md : Region.Mode) (ops : Array Oper) (listed : Array Bool) : Prop := ∀ j o, ops[j]? = some o → listed.getD j false = true → ∀ e ∈ o.after, Region.binds md e = true → listed.getD e.on false = true
theorem reach_listed {listed : Array Bool} (hc : Closed md ops listed) : ∀ (f j i : Nat) (o : Oper), ops[j]? = some o → (∀ e ∈ o.after, Region.binds md e = true → listed.getD e.on false = true) → reachB md ops f j i = true → listed.getD i false = true
  | 0, _, _, _, _, _, h => by cases h
  | f + 1, j, i, o, ho, hd, h => by
    simp only [reachB, ho, Bool.or_eq_true, List.any_eq_true, Bool.and_eq_true, decide_eq_true_eq] at h
    rcases h with ⟨e, he, hb, hon⟩ | ⟨e, he, hb, hr⟩
    · rw [← hon]; exact hd e (Array.mem_toList_iff.1 he) hb
    · have h1 := hd e (Array.mem_toList_iff.1 he) hb
      cases ho' : ops[e.on]? with
      | none =>
        cases f with
        | zero => cases hr
        | succ f => simp only [reachB, ho'] at hr; cases hr
      | some o' => exact reach_listed hc f e.on i o' ho' (hc e.on o' ho' h1) hr
theorem getD_set {listed : Array Bool} {i j : Nat} (h : listed.getD j false = true) : (listed.setIfInBounds i true).getD j false = true := by
  by_cases hij : i = j
  · subst hij
    have hs : i < listed.size := by
      rcases Nat.lt_or_ge i listed.size with h' | h'
      · exact h'
      · simp [Array.getElem?_eq_none h'] at h
    simp [hs]
  · rw [getD_set_ne false hij]; exact h
theorem Closed.set {listed : Array Bool} {i : Nat} (hc : Closed md ops listed) (hi : i ∈ Region.ready md ops listed) : Closed md ops (listed.setIfInBounds i true) := by
  intro j o ho hl e he hb
  by_cases hij : i = j
  · subst hij
    obtain ⟨_, o', ho', hall⟩ := mem_ready.1 hi
    obtain rfl : o = o' := Option.some.inj (ho.symm.trans ho')
    exact getD_set (hall e he hb)
  · rw [getD_set_ne false hij] at hl
    exact getD_set (hc j o ho hl e he hb)

/-- A reading operation that may come up now may be taken first. 'pure': it yields its value in every world. -/
theorem wpMix_first {i : Nat} {oi : Oper} {v : Value} (pure : Bool) (hpD : pure = true → ∀ w, D w) (hpC : pure = false → D = C) (hpk : kind i = if pure then 1 else 0) (hi : ops[i]? = some oi) (hsel : ∀ (j : Nat) (o : Oper) cs b, ops[j]? = some o → o.op ≠ .select cs b) :
    ∀ (fuel : Nat) (listed : Array Bool) (a : Act) (w : World), Closed md ops listed →
      (∀ j, j < ops.size → j ≠ i → listed.getD j true = false → kind j = 0 ∨ (kind j = 1 ∧ pure = true) ∨ reachB md ops ops.size j i = true) →
      (∀ j oj, ops[j]? = some oj → j ≠ i → listed.getD j true = false → (∀ e ∈ oj.after, Region.binds md e = true → e.on ≠ i) → oi.apart ops oj = true) →
      i ∈ Region.ready md ops listed → (pure = false → C w) → YieldsS P ops D oi v a →
      wpMix P md ops C kind Q fuel (listed.setIfInBounds i true) (a.put oi.dst v) w → wpMix P md ops C kind Q (fuel + 1) listed a w := by
  have self : ∀ (fuel : Nat) (listed : Array Bool) (a : Act) (w : World), (pure = false → C w) → YieldsS P ops D oi v a → wpMix P md ops C kind Q fuel (listed.setIfInBounds i true) (a.put oi.dst v) w →
      (kind i = 0 → mOp P ops i (fun a' w' => C w' ∧ wpMix P md ops C kind Q fuel (listed.setIfInBounds i true) a' w') a w) ∧ (kind i = 1 → mOp P ops i (wpMix P md ops C kind Q fuel (listed.setIfInBounds i true)) a w) ∧ (1 < kind i → wpOp P ops Q i (wpMix P md ops C kind Q fuel (listed.setIfInBounds i true)) a w) := by
    intro fuel listed a w hC hy H
    cases pure with
    | true =>
      simp only [if_true] at hpk
      exact ⟨fun h => by omega, fun _ => hy.mOp hi (hpD rfl w) H, fun h => by omega⟩
    | false =>
      simp only [Bool.false_eq_true, if_false] at hpk
      have hDC := hpC rfl
      subst hDC
      exact ⟨fun _ => hy.mOp hi (hC rfl) ⟨hC rfl, H⟩, fun h => by omega, fun h => by omega⟩
  intro fuel
  induction fuel with
  | zero =>
    intro listed a w _ _ _ hr hC hy H
    refine ⟨fun h => (by rw [h] at hr; cases hr), fun j hj => ?_⟩
    by_cases hji : j = i
    · subst hji; exact self 0 listed a w hC hy H
    · have := ready_mono hj hji
      rw [H.1] at this
      cases this
  | succ fuel ih =>
    intro listed a w hcl hok hfree hr hC hy H
    refine ⟨fun h => (by rw [h] at hr; cases hr), fun j hj => ?_⟩
    by_cases hji : j = i
    · subst hji; exact self (fuel + 1) listed a w hC hy H
    · have h1 := H.2 j (ready_mono hj hji)
      obtain ⟨hjun, oj, hoj, hall⟩ := mem_ready.1 hj
      have hiun : listed.getD i true = false := (mem_ready.1 hr).1
      have hif : listed.getD i false = false := by
        rcases Nat.lt_or_ge i listed.size with h' | h'
        · simp [h'] at hiun ⊢; exact hiun
        · simp [Array.getElem?_eq_none h']
      have hnot : ∀ e ∈ oj.after, Region.binds md e = true → e.on ≠ i := fun e he hb heq => by
        have h1 := hall e he hb
        rw [heq, hif] at h1
        cases h1
      have hjs : j < ops.size := (Array.getElem?_eq_some_iff.1 hoj).1
      have hkj : kind j = 0 ∨ (kind j = 1 ∧ pure = true) := by
        rcases hok j hjs hji hjun with h | h | h
        · exact .inl h
        · exact .inr h
        · have := reach_listed hcl _ j i oj hoj hall h
          rw [hif] at this
          cases this
      have hfree' : ∀ k ok, ops[k]? = some ok → k ≠ i → (listed.setIfInBounds j true).getD k true = false →
          (∀ e ∈ ok.after, Region.binds md e = true → e.on ≠ i) → oi.apart ops ok = true := fun k ok hk hki hun hno => by
        refine hfree k ok hk hki ?_ hno
        by_cases hjk : j = k
        · subst hjk; exact hjun
        · rw [getD_set_ne true hjk] at hun; exact hun
      have hok' : ∀ k, k < ops.size → k ≠ i → (listed.setIfInBounds j true).getD k true = false → kind k = 0 ∨ (kind k = 1 ∧ pure = true) ∨ reachB md ops ops.size k i = true := fun k hk hki hun => by
        refine hok k hk hki ?_
        by_cases hjk : j = k
        · subst hjk; exact hjun
        · rw [getD_set_ne true hjk] at hun; exact hun
      have hap := hfree j oj hoj hji hjun hnot
      have go : ∀ a' w', (pure = false → C w') → YieldsS P ops D oi v a' → wpMix P md ops C kind Q fuel ((listed.setIfInBounds i true).setIfInBounds j true) (a'.put oi.dst v) w' → wpMix P md ops C kind Q (fuel + 1) (listed.setIfInBounds j true) a' w' := by
        intro a' w' hC' hy' H'
        refine ih (listed.setIfInBounds j true) a' w' (hcl.set hj) hok' hfree' (ready_mono hr (Ne.symm hji)) hC' hy' ?_
        rw [Array.setIfInBounds_comm _ _ hji]
        exact H'
      rcases hkj with hk | ⟨hk, hp⟩
      · refine ⟨fun _ => ?_, fun h => by omega, fun h => by omega⟩
        have h2 := mOp_put hoj hap (fun cs b => hsel i oi cs b hi) (fun cs b => hsel j oj cs b hoj) hy (h1.1 hk)
        exact mOp_mono (fun a' w' h3 => ⟨h3.2.1, go a' w' (fun _ => h3.2.1) h3.1 h3.2.2⟩) h2
      · refine ⟨fun h => by omega, fun _ => ?_, fun h => by omega⟩
        have h2 := mOp_put hoj hap (fun cs b => hsel i oi cs b hi) (fun cs b => hsel j oj cs b hoj) hy (h1.2.1 hk)
        exact mOp_mono (fun a' w' h3 => go a' w' (fun h => by rw [hp] at h; cases h) h3.1 h3.2) h2

/-! The walk of the reading ones. -/
/-- Operations that never enter a function. -/
def noCall : Op → Bool
  | .move _ | .assign _ | .pick .. | .load .. | .build .. | .nilCheck _ | .binOp .. | .unOp .. | .convert .. | .fieldAddr .. | .field .. | .indexAddr .. | .index .. | .extract .. => true
  | .call c => match c.callee with
    | .builtin .len | .builtin .cap | .builtin .min | .builtin .max => true
    | _ => false
  | _ => false
theorem bind_value {α : Type} (s : Sem α) (g : α → Value) {w w' : World} {f : FuncId} {args : Array Value} : ((do pure (.value (g (← s))) : Sem Next).run P w) ≠ .ok (.enter f args) w' := by
  intro h
  simp only [Sem.run_bind] at h
  cases hs : s.run P w with
  | ok x w1 => rw [hs] at h; simp [Result.andThen, Sem.run_pure] at h
  | halt x w1 => rw [hs] at h; simp [Result.andThen] at h
theorem noCall_enter {o : Oper} (ho : noCall o.op = true) {ρ : Operand → Value} {w w' : World} {f : FuncId} {args : Array Value} : (execOp ρ o).run P w ≠ .ok (.enter f args) w' := by
  unfold execOp
  cases h : o.op <;> rw [h] at ho <;> first | cases ho | skip
  case nilCheck x =>
    intro h
    simp only [] at h
    split at h
    · simp [runtimePanic, go_sem] at h
    · simp [runtimePanic, go_sem] at h
    · simp [runtimePanic, go_sem] at h
    · split at h
      · simp [runtimePanic, go_sem] at h
      · simp only [Sem.run_bind] at h
        generalize (Sem.run P program w) = r0 at h
        cases r0 with
        | halt y w1 => simp [Result.andThen] at h
        | ok p w1 =>
          simp only [Result.andThen] at h
          split at h
          · split at h
            · simp [unsupported, go_sem] at h
            · simp [go_sem] at h
          · cases h
      · simp [go_sem] at h
    · simp [go_sem] at h
  case call c =>
    simp only [noCall] at ho
    intro h
    simp only [resolve] at h
    split at ho
    all_goals first
      | exact Bool.noConfusion ho
      | (rename_i hc; simp only [hc, pure_bind, invoke, builtin] at h; exact bind_value _ id h)
  all_goals first
    | exact bind_value _ id
    | exact bind_value _ _
    | (intro h; simp [Sem.run_pure] at h)
/-- One value, the world as it is, in every world of the class; the operations one behind the other. -/
def wpSt (P : Program) (ops : Array Oper) (D : World → Prop) (Q : Act → Prop) : List Oper → Act → Prop
  | [], a => Q a
  | o :: rest, a => if Region.wanted o (yielded ops a.tmps) then ∃ v, (∀ w, D w → o.quietAt P a (fun x => x = w) w v) ∧ wpSt P ops D Q rest (a.put o.dst v) else wpSt P ops D Q rest (a.put o.dst undef)
theorem quietAt_same {o : Oper} {a : Act} {v : Value} {w : World} (ho : noCall o.op = true) (h : o.quietAt P a D w v) : o.quietAt P a (fun x => x = w) w v := by
  unfold Oper.quietAt at *
  cases hr : (execOp a.eval o).run P w with
  | ok n w' =>
    rw [hr] at h
    cases n <;> simp only [Oper.quietUpon] at h ⊢
    case value u => exact h
    case skip => exact h
    case enter f args => exact absurd hr (noCall_enter ho)
  | halt x w' => rw [hr] at h; simp only [Oper.quietUpon] at h
theorem wpSt_nil {Q : Act → Prop} {a : Act} (h : Q a) : wpSt P ops D Q [] a := h
/-- One operation that calls nothing. -/
theorem wpSt_step {Q : Act → Prop} {a : Act} {o : Oper} {rest : List Oper} (ho : noCall o.op = true) (hw : Region.wanted o (yielded ops a.tmps) = true)
    (h : ∀ K : Act → Prop, (∀ a, wpSt P ops D Q rest a → K a) → o.quiet P a D K) : wpSt P ops D Q (o :: rest) a := by
  obtain ⟨v, h1, h2⟩ := h _ (fun _ h => h)
  unfold wpSt
  rw [if_pos hw]
  exact ⟨v, fun w hw => quietAt_same ho (h1 w hw), h2⟩
theorem wpSt_skip {Q : Act → Prop} {a : Act} {o : Oper} {rest : List Oper} (hw : Region.wanted o (yielded ops a.tmps) = false) (h : wpSt P ops D Q rest (a.put o.dst undef)) : wpSt P ops D Q (o :: rest) a := by
  unfold wpSt
  rw [if_neg (by rw [hw]; exact Bool.false_ne_true)]
  exact h
/-- A call that leaves the world as it is. -/
theorem wpSt_call {Q : Act → Prop} {a : Act} {o : Oper} {rest : List Oper} (f : FuncId) (xs : Array Operand) (ts : Array TypeId) (ho : o.op = .call { callee := .value (.func f), args := xs, argTypes := ts }) (hw : Region.wanted o (yielded ops a.tmps) = true)
    (fn : Func) (hf : P.funcs[f]? = some fn) (hn : (fn.name == "runtime.NumGoroutine") = false) (hb : fn.body.isNone = false) (args : Array Value) (hx : xs.map a.eval = args) (v : Value)
    (hC : ∀ w, D w → Calls P f args w fun e w' => e = .returned v ∧ w = w') (hne : ∃ w, D w) (d : Option Tmp) (hd : o.dst = d)
    (h : ∀ K : Act → Prop, (∀ a, wpSt P ops D Q rest a → K a) → Oper.quiet P (Oper.mk d (.assign (.const v)) 0 "" #[] none) a D K) : wpSt P ops D Q (o :: rest) a := by
  obtain ⟨u, h1, h2⟩ := h _ (fun _ h => h)
  obtain ⟨w0, hw0⟩ := hne
  obtain rfl : v = u := by
    have h3 := h1 w0 hw0
    unfold Oper.quietAt at h3
    simp only [execOp, Sem.run_pure, Oper.quietUpon] at h3
    exact h3.2
  unfold wpSt
  rw [if_pos hw]
  refine ⟨v, fun w hD => ?_, by rw [hd]; exact h2⟩
  have hrun : (callFunc f args).run P w = .ok (.enter f args) w := by
    have hn' : ¬ fn.name = "runtime.NumGoroutine" := by simpa using hn
    have hb' : ¬ fn.body = none := fun h => by rw [h] at hb; cases hb
    simp [callFunc, hf, hn', hb', go_sem]
  unfold Oper.quietAt
  simp [execOp, ho, resolve, invoke, go_sem]
  rw [hx, hrun]
  refine ⟨rfl, (hC w hD).mono ?_⟩
  rintro e w' ⟨h1, h2⟩
  exact ⟨h1, h2.symm⟩

/-- Those of one mark. -/
def qpick (c : Nat) : List Nat → List Oper → List Oper
  | d :: m, o :: l => if d = c then o :: qpick c m l else qpick c m l
  | _, _ => []
/-- The kinds of the marks: 0: reads (where it reads, the class holds); 1: yields its value in every world; 2: keeps the class; 3: ends no other way; 4: as ever. -/
def kindOf (m : List Nat) (i : Nat) : Nat := match m[i]? with
  | some 0 | some 2 => 0
  | some 1 | some 3 => 1
  | _ => 2
/-- May those of the mark c be taken first, in the order of the text? 'k': the place. -/
def mixFrom (md : Region.Mode) (ops : Array Oper) (kind : Nat → Nat) (c : Nat) : List Nat → List Oper → Nat → Array Bool → Bool
  | d :: m, _ :: l, k, listed =>
    if d = c then decide (kind k = if c = 1 then 1 else 0) && (Region.ready md ops listed).contains k && Region.free md ops listed k &&
      ((List.range ops.size).all fun j => decide (j = k) || listed.getD j true || decide (kind j = 0) || (decide (kind j = 1) && decide (c = 1)) || reachB md ops ops.size j k) &&
      mixFrom md ops kind c m l (k + 1) (listed.setIfInBounds k true)
    else mixFrom md ops kind c m l (k + 1) listed
  | _, _, _, _ => true
/-- What has come up then. -/
def mixed (c : Nat) : List Nat → List Oper → Nat → Array Bool → Array Bool
  | d :: m, _ :: l, k, listed => if d = c then mixed c m l (k + 1) (listed.setIfInBounds k true) else mixed c m l (k + 1) listed
  | _, _, _, listed => listed
theorem yieldsS_of {Q : Act → Prop} {o : Oper} {rest : List Oper} {a : Act} (h : wpSt P ops D Q (o :: rest) a) : ∃ v, YieldsS P ops D o v a ∧ wpSt P ops D Q rest (a.put o.dst v) := by
  unfold wpSt at h
  by_cases hw : Region.wanted o (yielded ops a.tmps) = true
  · rw [if_pos hw] at h
    obtain ⟨v, h1, h2⟩ := h
    exact ⟨v, .inl ⟨hw, h1⟩, h2⟩
  · rw [if_neg hw] at h
    exact ⟨undef, .inr ⟨by simpa using hw, rfl⟩, h⟩
theorem wpMix_lex (c : Nat) (hc1 : c = 1 → ∀ w, D w) (hcC : c ≠ 1 → D = C) (hs : Region.noSelect ops = true) {w : World} (hC : c ≠ 1 → C w) (fuel : Nat) : ∀ (l : List Oper) (m : List Nat) (k : Nat) (listed : Array Bool) (a : Act), (∀ j, j < l.length → l[j]? = ops[k + j]?) → Closed md ops listed →
    mixFrom md ops kind c m l k listed = true → wpSt P ops D (fun a' => wpMix P md ops C kind Q fuel (mixed c m l k listed) a' w) (qpick c m l) a → wpMix P md ops C kind Q ((qpick c m l).length + fuel) listed a w
  | [], m, _, listed, a, _, _, _, h => by
    have e : qpick c m [] = [] := by cases m <;> rfl
    have e2 : ∀ k, mixed c m [] k listed = listed := fun k => by cases m <;> rfl
    rw [e] at h ⊢
    simp only [List.length_nil, Nat.zero_add]
    simp only [wpSt, e2] at h
    exact h
  | o :: l, [], _, listed, a, _, _, _, h => by
    simp only [qpick, List.length_nil, Nat.zero_add]
    simp only [qpick, wpSt, mixed] at h
    exact h
  | o :: l, d :: m, k, listed, a, hl, hcl, hB, h => by
    have hl' : ∀ j, j < l.length → l[j]? = ops[k + 1 + j]? := fun j hj => by have := hl (j + 1) (by simpa using hj); simpa [Nat.add_assoc, Nat.add_comm 1 j] using this
    by_cases hd : d = c
    · have h0 : ops[k]? = some o := by simpa using (hl 0 (by simp)).symm
      simp only [mixFrom, if_pos hd, Bool.and_eq_true, decide_eq_true_eq] at hB
      obtain ⟨⟨⟨⟨hk, hr⟩, hf⟩, hj⟩, hB'⟩ := hB
      simp only [qpick, if_pos hd, mixed] at h ⊢
      obtain ⟨v, hy, hK⟩ := yieldsS_of h
      have hr' : k ∈ Region.ready md ops listed := by simpa using hr
      have := wpMix_first (Q := Q) (kind := kind) (C := C) (decide (c = 1)) (fun h => hc1 (of_decide_eq_true h)) (fun h => hcC (of_decide_eq_false h)) (by rw [hk]; by_cases h1 : c = 1 <;> simp [h1]) h0 (Region.noSelect_spec hs) ((qpick c m l).length + fuel) listed a w hcl
        (fun j hjs hjk hun => by
          have h1 := List.all_eq_true.1 hj j (List.mem_range.2 hjs)
          simp only [Bool.or_eq_true, Bool.and_eq_true, decide_eq_true_eq] at h1
          rcases h1 with (((h1 | h1) | h1) | h1) | h1
          · exact absurd h1 hjk
          · rw [hun] at h1; cases h1
          · exact .inl h1
          · exact .inr (.inl ⟨h1.1, by simpa using h1.2⟩)
          · exact .inr (.inr h1))
        (Region.free_spec h0 hf) hr' (fun h => hC (of_decide_eq_false h)) hy
        (wpMix_lex c hc1 hcC hs hC fuel l m (k + 1) _ _ hl' (hcl.set hr') hB' hK)
      rw [List.length_cons, Nat.add_right_comm]
      exact this
    · simp only [mixFrom, if_neg hd] at hB
      simp only [qpick, if_neg hd, mixed] at h ⊢
      exact wpMix_lex c hc1 hcC hs hC fuel l m (k + 1) listed a hl' hcl hB h
theorem closed_none (n : Nat) : Closed md ops (Array.replicate n false) := by
  intro j o _ hl
  by_cases h : j < n
  · simp [h] at hl
  · simp [h] at hl
theorem closed_mixed (c : Nat) : ∀ (l : List Oper) (m : List Nat) (k : Nat) (listed : Array Bool), Closed md ops listed → mixFrom md ops kind c m l k listed = true → Closed md ops (mixed c m l k listed)
  | [], [], _, _, hc, _ => hc
  | [], _ :: _, _, _, hc, _ => hc
  | _ :: _, [], _, _, hc, _ => hc
  | _ :: l, d :: m, k, listed, hc, hB => by
    by_cases hd : d = c
    · simp only [mixFrom, if_pos hd, Bool.and_eq_true] at hB
      simp only [mixed, if_pos hd]
      exact closed_mixed c l m (k + 1) _ (hc.set (by simpa using hB.1.1.1.2)) hB.2
    · simp only [mixFrom, if_neg hd] at hB
      simp only [mixed, if_neg hd]
      exact closed_mixed c l m (k + 1) _ hc hB
/-- What is left, if one alone may come up. -/
theorem mix_keeps {k fuel : Nat} {listed : Array Bool} {a : Act} {w : World} (hr : Region.ready md ops listed = [k]) (hk : kind k = 0) (h : mOp P ops k (fun a' w' => C w' ∧ wpMix P md ops C kind Q fuel (listed.setIfInBounds k true) a' w') a w) : wpMix P md ops C kind Q (fuel + 1) listed a w := by
  refine ⟨fun h0 => (by rw [hr] at h0; cases h0), fun i hi => ?_⟩
  rw [hr] at hi
  obtain rfl : i = k := by simpa using hi
  exact ⟨fun _ => h, fun h0 => by omega, fun h0 => by omega⟩
theorem mix_mute {k fuel : Nat} {listed : Array Bool} {a : Act} {w : World} (hr : Region.ready md ops listed = [k]) (hk : kind k = 1) (h : mOp P ops k (wpMix P md ops C kind Q fuel (listed.setIfInBounds k true)) a w) : wpMix P md ops C kind Q (fuel + 1) listed a w := by
  refine ⟨fun h0 => (by rw [hr] at h0; cases h0), fun i hi => ?_⟩
  rw [hr] at hi
  obtain rfl : i = k := by simpa using hi
  exact ⟨fun h0 => by omega, fun _ => h, fun h0 => by omega⟩
/-- The last ones, each alone. -/
def seqB (md : Region.Mode) (ops : Array Oper) (kind : Nat → Nat) : List Oper → Nat → Array Bool → Bool
  | [], _, listed => (Region.ready md ops listed).isEmpty
  | _ :: l, k, listed => decide (Region.ready md ops listed = [k]) && decide (1 < kind k) && seqB md ops kind l (k + 1) (listed.setIfInBounds k true)
theorem mix_list : ∀ (l : List Oper) (k : Nat) (listed : Array Bool) (a : Act) (w : World), (∀ j, j < l.length → l[j]? = ops[k + j]?) → seqB md ops kind l k listed = true → wpList P ops Q l a w → wpMix P md ops C kind Q l.length listed a w
  | [], _, listed, a, w, _, hB, h => ⟨by simpa [seqB] using hB, h⟩
  | o :: l, k, listed, a, w, hl, hB, h => by
    have hl' : ∀ j, j < l.length → l[j]? = ops[k + 1 + j]? := fun j hj => by have := hl (j + 1) (by simpa using hj); simpa [Nat.add_assoc, Nat.add_comm 1 j] using this
    have h0 : ops[k]? = some o := by simpa using (hl 0 (by simp)).symm
    simp only [seqB, Bool.and_eq_true, decide_eq_true_eq] at hB
    obtain ⟨⟨hr, hk⟩, hB'⟩ := hB
    refine ⟨fun h0 => (by rw [hr] at h0; cases h0), fun i hi => ?_⟩
    rw [hr] at hi
    obtain rfl : i = k := by simpa using hi
    refine ⟨fun h0 => by omega, fun h0 => by omega, fun _ => ?_⟩
    unfold wpOp
    simp only [h0]
    unfold wpList at h
    split
    · rename_i hw
      rw [if_pos hw] at h
      exact h.imp (Oper.wp_mono fun a' w' h' => mix_list l (i + 1) _ a' w' hl' hB' h') id
    · rename_i hw
      rw [if_neg hw] at h
      exact mix_list l (i + 1) _ _ _ hl' hB' h
end
theorem mix_tail {P : Program} {md : Region.Mode} {C : World → Prop} {kind : Nat → Nat} {Q : Exit → Act → World → Prop} {l : List Oper} {fuel : Nat} (k : Nat) {listed : Array Bool} {a : Act} {w : World} (hf : fuel = (l.drop k).length) (hB : seqB md l.toArray kind (l.drop k) k listed = true) (h : wpList P l.toArray Q (l.drop k) a w) : wpMix P md l.toArray C kind Q fuel listed a w := by
  subst hf
  exact mix_list (l.drop k) k listed a w (fun j _ => by simp) hB h
/-- A class, as worlds that bear it. -/
structure In (C : World → Prop) where
  W : World
  h : C W
/-- The reading operations first, in the order of the text; then the others. -/
theorem wp_region_mix {P : Program} {id : Nat} {Q : Exit → Act → World → Prop} {a : Act} {w : World} {l : List Oper} (C : World → Prop) (m : List Nat) (fuel : Nat) (hm : P.follows .mixedOrders = true)
    (hB : (Region.noSelect l.toArray && mixFrom .any l.toArray (kindOf m) 1 m l 0 (Array.replicate l.length false) && mixFrom .any l.toArray (kindOf m) 0 m l 0 (mixed 1 m l 0 (Array.replicate l.length false)) && decide ((qpick 1 m l).length + ((qpick 0 m l).length + fuel) = l.length)) = true) (hC : C w.drew)
    (hh : ∀ K : Act → Prop, (∀ a', wpMix P .any l.toArray (fun W => ∃ x : In C, W = x.W) (kindOf m) Q fuel (mixed 0 m l 0 (mixed 1 m l 0 (Array.replicate l.length false))) a' w.drew → K a') → wpSt P l.toArray (fun _ => True) (fun a => wpSt P l.toArray (fun W => ∃ x : In C, W = x.W) K (qpick 0 m l) a) (qpick 1 m l) a) : (Code.region id l.toArray true).wp P Q a w := by
  have h := hh _ (fun _ h => h)
  simp only [Bool.and_eq_true, decide_eq_true_eq] at hB
  obtain ⟨⟨⟨h1, h2⟩, h3⟩, h4⟩ := hB
  refine wp_region_any hm (wpAny_of_mix (C := fun W => ∃ x : In C, W = x.W) (kind := kindOf m) _ _ _ _ ?_)
  have hc0 := closed_none (md := .any) (ops := l.toArray) l.length
  have hc1 := closed_mixed 1 l m 0 _ hc0 h2
  have hl : ∀ j, j < l.length → l[j]? = l.toArray[0 + j]? := fun j _ => by simp
  have := wpMix_lex (P := P) (C := fun W => ∃ x : In C, W = x.W) (D := fun _ => True) (Q := Q) 1 (fun _ _ => trivial) (fun h => absurd rfl h) h1 (w := w.drew) (fun h => absurd rfl h) ((qpick 0 m l).length + fuel) l m 0 (Array.replicate l.length false) a hl hc0 h2 ?_
  · rw [h4] at this
    simpa using this
  · have go : ∀ (rest : List Oper) (a : Act), wpSt P l.toArray (fun _ => True) (fun a => wpSt P l.toArray (fun W => ∃ x : In C, W = x.W) (fun a' => wpMix P .any l.toArray (fun W => ∃ x : In C, W = x.W) (kindOf m) Q fuel (mixed 0 m l 0 (mixed 1 m l 0 (Array.replicate l.length false))) a' w.drew) (qpick 0 m l) a) rest a →
        wpSt P l.toArray (fun _ => True) (fun a' => wpMix P .any l.toArray (fun W => ∃ x : In C, W = x.W) (kindOf m) Q ((qpick 0 m l).length + fuel) (mixed 1 m l 0 (Array.replicate l.length false)) a' w.drew) rest a := by
      intro rest
      induction rest with
      | nil =>
        intro a h
        exact wpMix_lex (P := P) (D := fun W => ∃ x : In C, W = x.W) (Q := Q) 0 (fun h => by cases h) (fun _ => rfl) h1 (w := w.drew) (fun _ => ⟨⟨w.drew, hC⟩, rfl⟩) fuel l m 0 _ a hl hc1 h3 h
      | cons o rest ih =>
        intro a h
        unfold wpSt at h ⊢
        split
        · rename_i hw
          rw [if_pos hw] at h
          obtain ⟨v, h5, h6⟩ := h
          exact ⟨v, h5, ih _ h6⟩
        · rename_i hw
          rw [if_neg hw] at h
          exact ih _ h
    exact go _ _ h
end Go.Proofs.YtfohgocdabgbgaaDoor.G
