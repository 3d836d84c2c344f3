/- What holds of the table that is made: plain, no program in it. -/
import Derived.Test.YtlfnjdgfllhepaaBSymP
import Derived.Test.YtlfnjdgfllhepaaBKraft
namespace Go.Proofs.Ytlfnjdgfllhepaa

theorem off_ge_two {f : Nat → Nat} {i j n : Nat} (hi : i < n) (hj : j < n) (h : i ≠ j) {a b : Nat} (ha : a ≤ f i) (hb : b ≤ f j) : a + b ≤ off f n := by
  have := off_two f hi hj h
  omega
/-- The whole of what holds of lengths, once a symbol comes. -/
structure Lens (f : Nat → Nat) (L : Nat → Nat) : Prop where
  ne : ∀ x, L x ≠ 0 ↔ full f x ≠ 0
  le : ∀ x, L x ≤ 256
  fill : off (fun x => if L x = 0 then 0 else 2 ^ (256 - L x)) 257 = 2 ^ 256
theorem lens_all (f : Nat → Nat) (y : Nat) (hy : y < 256) (hfy : f y ≠ 0) : Lens f (lens f) := by
  obtain ⟨hf, hp⟩ := lens_fit f
  have h256 : full f 256 ≠ 0 := Nat.one_ne_zero
  have hyF : full f y ≠ 0 := by
    unfold full
    rw [if_neg (by omega), if_pos hy]
    exact hfy
  obtain ⟨a, ha⟩ := one_left hf hp 256 h256
  have hWa := (ha 256 h256).2
  have hk := hf.kraft a hWa
  have halt := (hf.self a hWa).2
  have hng := ngr_pos halt hWa
  have hlt : ∀ x, full f x ≠ 0 → x < 257 := fun x hx => by
    by_cases h : x < 257
    · exact h
    · exact absurd (full_out f x (by omega)) hx
  unfold lens
  generalize hrun 257 (hstart (full f)) = s at *
  have hne : ∀ x, s.L x ≠ 0 ↔ full f x ≠ 0 := by
    intro x
    constructor
    · intro h h0
      exact h (hf.out x h0).2
    · intro h h0
      obtain ⟨z, hz, hzx⟩ : ∃ z, full f z ≠ 0 ∧ z ≠ x := by
        by_cases e : x = 256
        · exact ⟨y, hyF, by omega⟩
        · exact ⟨256, h256, fun h => e h.symm⟩
      have h1 := off_ge_two (f := fun x => if s.own x = a then 2 ^ (256 - s.L x) else 0) (hlt x h) (hlt z hz) (Ne.symm hzx) (a := 2 ^ 256) (b := 1)
        (by show _ ≤ if s.own x = a then 2 ^ (256 - s.L x) else 0; rw [if_pos (ha x h).1, h0]; exact Nat.le_refl _)
        (by show _ ≤ if s.own z = a then 2 ^ (256 - s.L z) else 0; rw [if_pos (ha z hz).1]; exact Nat.two_pow_pos _)
      rw [hk] at h1
      omega
  refine ⟨hne, fun x => by have := hf.few x; omega, ?_⟩
  rw [← hk]
  refine off_congr fun x _ => ?_
  by_cases h : full f x = 0
  · have h1 := hf.out x h
    rw [if_pos h1.2, if_neg (by omega)]
  · rw [if_neg ((hne x).2 h), if_pos (ha x h).1]
theorem Lens.kr {f L : Nat → Nat} (h : Lens f L) : ∃ T, Kr (m0 L 257) 256 T ∧ T = off (fun x => if L x = 0 then 0 else 1) 257 := by
  refine ⟨_, ⟨upd_same _ _ _, fun i hi => m0_out L 257 256 (fun x _ => h.le x) i hi, ?_, m0_sum L 300 257 fun x _ => by have := h.le x; omega, ?_⟩, rfl⟩
  · rw [m0_ks L 256 257 fun x _ => h.le x]
    exact h.fill
  · have h1 := off_mono (f := fun x => if L x = 0 then 0 else 1) (g := fun _ => 1) (n := 257) fun i _ => by
      show (if L i = 0 then 0 else 1) ≤ 1
      split <;> omega
    have h2 := off_one 257
    omega
theorem come_off (L : Nat → Nat) : ∀ k, (come L k).length = off (fun x => if L x = 0 then 0 else 1) k
  | 0 => rfl
  | k + 1 => by
    unfold come
    rw [List.length_append, come_off L k]
    show _ = off _ k + (if L k = 0 then 0 else 1)
    split <;> rfl
/-- The counts and the symbols. -/
def tabC (f : Nat → Nat) : Nat → Nat := fun i => fin (outr 256 (m0 (lens f) 257)) (i + 1)
def tabS (f : Nat → Nat) : List UInt8 := syms (lens f)
theorem tab_lt (f : Nat → Nat) (y : Nat) (hy : y < 256) (hfy : f y ≠ 0) (i : Nat) : tabC f i < 256 := by
  obtain ⟨T, hk, _⟩ := (lens_all f y hy hfy).kr
  exact (fin_right (hk.outr 256 _ (by omega) (by omega))).2.1 i
theorem tab_right (f : Nat → Nat) (y : Nat) (hy : y < 256) (hfy : f y ≠ 0) : Right (tabC f) (tabS f) := by
  have hl := lens_all f y hy hfy
  obtain ⟨T, hk, hT⟩ := hl.kr
  obtain ⟨h1, h2, h3⟩ := fin_right (hk.outr 256 _ (by omega) (by omega))
  have hlen : (tabS f).length + 1 = T := by
    unfold tabS
    rw [syms_length, come_off, hT]
    show _ = off _ 256 + (if lens f 256 = 0 then 0 else 1)
    rw [if_neg ((hl.ne 256).2 Nat.one_ne_zero)]
  have hm : y.toUInt8 ∈ tabS f := by
    unfold tabS
    rw [syms_mem, toU_toNat y hy, hl.ne]
    unfold full
    rw [if_neg (by omega), if_pos hy]
    exact hfy
  have hpos := List.length_pos_of_mem hm
  exact ⟨by unfold tabC; omega, hpos, by have := hk.few; omega, syms_nodup _, h3⟩
theorem tab_mem (f : Nat → Nat) (y : Nat) (hy : y < 256) (hfy : f y ≠ 0) (x : Nat) (hx : x < 256) : x.toUInt8 ∈ tabS f ↔ f x ≠ 0 := by
  unfold tabS
  rw [syms_mem, toU_toNat x hx, (lens_all f y hy hfy).ne]
  unfold full
  rw [if_neg (by omega), if_pos hx]
theorem tab_come (f : Nat → Nat) (y : Nat) (hy : y < 256) (hfy : f y ≠ 0) : come (lens f) 256 ≠ [] := by
  intro e
  have h := (tab_right f y hy hfy).some
  unfold tabS at h
  rw [syms_length, e] at h
  simp at h
end Go.Proofs.Ytlfnjdgfllhepaa
