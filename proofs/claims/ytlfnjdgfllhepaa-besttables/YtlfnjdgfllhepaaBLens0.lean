/- Chains of groups: what join keeps; loading a part of a row. -/
import Derived.Test.YtlfnjdgfllhepaaBJoin2
import Derived.Test.YtlfnjdgfllhepaaBKraft
namespace Go.Proofs.Ytlfnjdgfllhepaa
open Go.RowKit

/-- Each group has its chain. -/
def Chn (s : HS) (nx : Nat → Option Nat) : Prop := ∀ a, s.W a ≠ 0 → ∃ l, Path nx a l ∧ l.Nodup ∧ ∀ x, x ∈ l ↔ s.own x = a
theorem Chn.start {F : Nat → Nat} (h0 : ∀ x, 257 ≤ x → F x = 0) : Chn (hstart F) (fun _ => none) := by
  intro a ha
  have hF : F a ≠ 0 := ha
  have hlt : a < 257 := by
    by_cases h : a < 257
    · exact h
    · exact absurd (h0 a (by omega)) hF
  refine ⟨[a], ⟨rfl, fun j x hx => ?_⟩, by simp, fun x => ?_⟩
  · cases j with
    | zero => rfl
    | succ j => simp at hx
  · show x ∈ [a] ↔ (if F x = 0 then 999 else x) = a
    rw [List.mem_singleton]
    by_cases hx : F x = 0
    · rw [if_pos hx]
      exact ⟨fun e => absurd (e ▸ hx) hF, fun e => by omega⟩
    · rw [if_neg hx]
theorem Chn.join {F : Nat → Nat} {s : HS} {nx : Nat → Option Nat} (hf : Fit F s) (h0 : ∀ x, 257 ≤ x → F x = 0) (hc : Chn s nx) {a b : Nat} (hp : pick s = some (a, b)) :
    ∃ la l z n2, Path nx a la ∧ la[la.length - 1]? = some z ∧ n2 = (fun x => if x = z then some b else nx x) ∧ Path n2 a l ∧ l.Nodup ∧ (∀ x ∈ l, x < 257) ∧ (∀ x ∈ la, x < 257) ∧ la.Nodup ∧ Chn (s.join a b) n2 ∧ more s.L l = (s.join a b).L := by
  obtain ⟨⟨ha, hWa, _, _⟩, ⟨hb, hWb, hba, _⟩⟩ := pick_some hp
  obtain ⟨la, hpa, hna, hma⟩ := hc a hWa
  obtain ⟨lb, hpb, hnb, hmb⟩ := hc b hWb
  have hin : ∀ x c, c < 257 → s.own x = c → x < 257 := by
    intro x c hc' hx
    by_cases h : x < 257
    · exact h
    · have := (hf.out x (h0 x (by omega))).1
      omega
  have hlen : 0 < la.length := (List.getElem?_eq_some_iff.1 hpa.hd).1
  have hlenb : 0 < lb.length := (List.getElem?_eq_some_iff.1 hpb.hd).1
  obtain ⟨z, hz⟩ : ∃ z, la[la.length - 1]? = some z := ⟨la[la.length - 1]'(by omega), List.getElem?_eq_getElem (by omega)⟩
  have hzm : s.own z = a := (hma z).1 (List.mem_of_getElem? hz)
  have hdis : ∀ x ∈ la, ∀ y ∈ lb, x ≠ y := by
    intro x hx y hy e
    subst e
    exact hba (((hmb x).1 hy).symm.trans ((hma x).1 hx))
  refine ⟨la, la ++ lb, z, _, hpa, hz, rfl, ⟨?_, ?_⟩, List.nodup_append.2 ⟨hna, hnb, hdis⟩, ?_, ?_, hna, ?_, ?_⟩
  · rw [List.getElem?_append_left hlen]; exact hpa.hd
  · intro j x hx
    by_cases hj : j < la.length
    · rw [List.getElem?_append_left hj] at hx
      by_cases hj2 : j + 1 < la.length
      · have hne : x ≠ z := by
          intro e
          subst e
          obtain ⟨h1, h2⟩ := List.getElem?_eq_some_iff.1 hx
          obtain ⟨h3, h4⟩ := List.getElem?_eq_some_iff.1 hz
          exact List.pairwise_iff_getElem.1 hna j (la.length - 1) h1 h3 (by omega) (h2.trans h4.symm)
        show (if x = z then some b else nx x) = _
        rw [if_neg hne, List.getElem?_append_left hj2, hpa.nxt j x hx]
      · have e : j = la.length - 1 := by omega
        have hxz : x = z := by rw [e, hz] at hx; exact (Option.some.inj hx).symm
        show (if x = z then some b else nx x) = _
        rw [if_pos hxz, List.getElem?_append_right (by omega), show j + 1 - la.length = 0 by omega, hpb.hd]
    · rw [List.getElem?_append_right (by omega)] at hx
      have hne : x ≠ z := fun e => hdis z (List.mem_of_getElem? hz) x (List.mem_of_getElem? hx) e.symm
      show (if x = z then some b else nx x) = _
      rw [if_neg hne, List.getElem?_append_right (by omega), hpb.nxt _ x hx, show j + 1 - la.length = j - la.length + 1 by omega]
  · intro x hx
    rcases List.mem_append.1 hx with h | h
    · exact hin x a ha ((hma x).1 h)
    · exact hin x b hb ((hmb x).1 h)
  · exact fun x hx => hin x a ha ((hma x).1 hx)
  · intro c hcW
    have hcb : c ≠ b := fun e => hcW (by subst e; exact upd_same _ _ _)
    by_cases hca : c = a
    · subst hca
      refine ⟨la ++ lb, ⟨?_, ?_⟩, List.nodup_append.2 ⟨hna, hnb, hdis⟩, ?_⟩
      · rw [List.getElem?_append_left hlen]; exact hpa.hd
      · intro j x hx
        by_cases hj : j < la.length
        · rw [List.getElem?_append_left hj] at hx
          by_cases hj2 : j + 1 < la.length
          · have hne : x ≠ z := by
              intro e
              subst e
              obtain ⟨h1, h2⟩ := List.getElem?_eq_some_iff.1 hx
              obtain ⟨h3, h4⟩ := List.getElem?_eq_some_iff.1 hz
              exact List.pairwise_iff_getElem.1 hna j (la.length - 1) h1 h3 (by omega) (h2.trans h4.symm)
            show (if x = z then some b else nx x) = _
            rw [if_neg hne, List.getElem?_append_left hj2, hpa.nxt j x hx]
          · have e : j = la.length - 1 := by omega
            have hxz : x = z := by rw [e, hz] at hx; exact (Option.some.inj hx).symm
            show (if x = z then some b else nx x) = _
            rw [if_pos hxz, List.getElem?_append_right (by omega), show j + 1 - la.length = 0 by omega, hpb.hd]
        · rw [List.getElem?_append_right (by omega)] at hx
          have hne : x ≠ z := fun e => hdis z (List.mem_of_getElem? hz) x (List.mem_of_getElem? hx) e.symm
          show (if x = z then some b else nx x) = _
          rw [if_neg hne, List.getElem?_append_right (by omega), hpb.nxt _ x hx, show j + 1 - la.length = j - la.length + 1 by omega]
      · intro x
        show x ∈ la ++ lb ↔ (if s.own x = b then c else s.own x) = c
        rw [List.mem_append, hma, hmb]
        by_cases h : s.own x = b
        · rw [if_pos h]; exact ⟨fun _ => rfl, fun _ => .inr h⟩
        · rw [if_neg h]; exact ⟨fun h' => h'.elim id fun h'' => absurd h'' h, .inl⟩
    · have hWc : s.W c ≠ 0 := by
        have : (s.join a b).W c = s.W c := by
          show upd (upd s.W a _) b 0 c = _
          rw [upd_ne _ _ hcb, upd_ne _ _ hca]
        rwa [this] at hcW
      obtain ⟨lc, hpc, hnc, hmc⟩ := hc c hWc
      refine ⟨lc, ⟨hpc.hd, fun j x hx => ?_⟩, hnc, fun x => ?_⟩
      · have hne : x ≠ z := fun e => hca (by rw [← hzm, ← e]; exact ((hmc x).1 (List.mem_of_getElem? hx)).symm)
        show (if x = z then some b else nx x) = _
        rw [if_neg hne, hpc.nxt j x hx]
      · show x ∈ lc ↔ (if s.own x = b then a else s.own x) = c
        rw [hmc]
        by_cases h : s.own x = b
        · rw [if_pos h, h]; exact ⟨fun e => absurd e.symm hcb, fun e => absurd e.symm hca⟩
        · rw [if_neg h]
  · funext x
    show (if x ∈ la ++ lb then s.L x + 1 else s.L x) = (if s.own x = a ∨ s.own x = b then s.L x + 1 else s.L x)
    have : x ∈ la ++ lb ↔ s.own x = a ∨ s.own x = b := by rw [List.mem_append, hma, hmb]
    by_cases h : s.own x = a ∨ s.own x = b
    · rw [if_pos h, if_pos (this.2 h)]
    · rw [if_neg h, if_neg fun h' => h (this.1 h')]

theorem off_most {f : Nat → Nat} {c : Nat} : ∀ {n : Nat}, (∀ i, i < n → f i ≤ c) → off f n ≤ c * n
  | 0, _ => by simp [off]
  | n + 1, h => by
    show off f n + f n ≤ _
    have h1 := off_most (n := n) fun i hi => h i (Nat.lt_succ_of_lt hi)
    have h2 := h n (Nat.lt_succ_self n)
    rw [Nat.mul_succ]
    omega
theorem run_loadVar_part (w : World) (g o n : Nat) (ty : TypeId) (f : Nat → Value) (d : TypeDesc) (hc : ∀ j, j < n → w.cell? ⟨g, o + j, none⟩ = some (f j))
    (hu : Try.prog.underlying ty = some d) (hd : (match d with | .struct _ | .array _ _ => true | _ => false) = true) (hi : (Try.prog.info? ty).map (·.size) = some n) :
    (loadVar ty ⟨g, o, none⟩).run Try.prog w = .ok (.agg ((List.range n).map f).toArray) w := by
  have hl : (loadCells ⟨g, o, none⟩ n).run Try.prog w = .ok ((List.range n).map f).toArray w :=
    run_loadCells (P := Try.prog) w ⟨g, o, none⟩ n f (fun j hj => by
      have hadd : (⟨g, o, none⟩ : Addr).add j = ⟨g, o + j, none⟩ := by unfold Addr.add; split <;> simp_all
      rw [hadd, hc j hj])
  cases hq : Try.prog.info? ty with
  | none => simp [hq] at hi
  | some i =>
    have hs : i.size = n := by simpa [hq] using hi
    have hagg : (isAgg ty).run Try.prog w = .ok true w := by
      unfold isAgg
      rw [Sem.run_bind, run_underlying hu w]
      cases d <;> simp_all
    simp [loadVar, Sem.run_bind, hagg, sizeOf, typeInfo, hq, hs, hl]
theorem wpList_load_part {ops : Array Oper} {rest : List Oper} {o : Oper} {a : Act} {w : World} {Q : Exit → Act → World → Prop} (hgd : o.guard = none) (ty : TypeId) (x : Operand) (ho : o.op = .load ty x)
    (g at' n : Nat) (hx : a.eval x = .pointer (some ⟨g, at', none⟩)) (f : Nat → Value) (d : TypeDesc) (hc : ∀ j, j < n → w.cell? ⟨g, at' + j, none⟩ = some (f j))
    (hu : Try.prog.underlying ty = some d) (hd : (match d with | .struct _ | .array _ _ => true | _ => false) = true) (hi : (Try.prog.info? ty).map (·.size) = some n)
    (h : wpList Try.prog ops Q rest (a.put o.dst (.agg ((List.range n).map f).toArray)) w) : wpList Try.prog ops Q (o :: rest) a w :=
  wpList_plain hgd fun _ hK => by
    unfold Oper.wp execOp
    simp only [ho, hx, Instr.loadAt, Instr.sureAddr, Sem.run_bind, Sem.run_pure, Result.andThen_ok, run_loadVar_part w g at' n ty f d hc hu hd hi]
    exact hK _ _ h
/-- copy puts how often symbols come ahead. -/
theorem copy_in (w : World) (g q : Nat) (fi G : Nat → Int) (hg : RowN 61 771 g G w) (hq : RowN 22 256 q fi w) :
    (Builtin.copy_ #[62, 62] 3 #[.slice (some ⟨g, 0, none⟩) 257 257, .slice (some ⟨q, 0, none⟩) 256 256]).run Try.prog w = .ok (goInt 256) (w.setRow g (ints 771 fun i => if i < 256 then fi i else G i)) := by
  have h := run_copy_row (P := Try.prog) w 62 62 3 3 g 0 257 257 ⟨q, 0, none⟩ 256 256 (ints 771 G) 61 (ints 256 fi).toList (by kernel_rfl) (by kernel_rfl) hg (by simp [ints_size])
    (fun j v hv => by
      have hadd : (⟨q, 0, none⟩ : Addr).add j = ⟨q, j, none⟩ := by unfold Addr.add; split <;> simp_all
      rw [hadd, cell_of_row w q j _ 22 (0, 0) hq]
      simpa using hv) (by simp [ints_size]) (fun v hv => by
        unfold ints at hv
        simp only [List.mem_map] at hv
        obtain ⟨i, _, rfl⟩ := hv
        rfl)
  have e : ((ints 771 G).toList.take 0 ++ (ints 256 fi).toList ++ (ints 771 G).toList.drop (0 + (ints 256 fi).toList.length)).toArray = ints 771 fun i => if i < 256 then fi i else G i := by
    apply Array.ext_getElem?
    intro i
    simp only [List.take_zero, List.nil_append, Array.length_toList, ints_size, Nat.zero_add, List.getElem?_toArray]
    by_cases h1 : i < 256
    · rw [List.getElem?_append_left (by simp [ints_size, h1]), ints_at _ (by omega), if_pos h1, Array.getElem?_toList, ints_at fi h1]
    · rw [List.getElem?_append_right (by simp [ints_size]; omega), List.getElem?_drop, Array.length_toList, ints_size, Array.getElem?_toList, show 256 + (i - 256) = i by omega]
      by_cases h2 : i < 771
      · rw [ints_at _ h2, ints_at _ h2, if_neg h1]
      · rw [Array.getElem?_eq_none (by rw [ints_size]; omega), Array.getElem?_eq_none (by rw [ints_size]; omega)]
  rw [h, e, Array.length_toList, ints_size]
  rfl
end Go.Proofs.Ytlfnjdgfllhepaa
