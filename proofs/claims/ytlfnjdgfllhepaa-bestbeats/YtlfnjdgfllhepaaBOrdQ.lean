/- Where nothing is made shorter, a code has just its symbol's length: plain. -/
import Derived.Test.YtlfnjdgfllhepaaBOrdP
import Derived.Test.YtlfnjdgfllhepaaBCost
namespace Go.Proofs.Ytlfnjdgfllhepaa

/-- How many of the first k have a length of 1 to n. -/
def lo (L : Nat → Nat) (n k : Nat) : Nat := off (fun x => if L x = 0 then 0 else if L x ≤ n then 1 else 0) k
theorem lo_step (L : Nat → Nat) (n k : Nat) : lo L (n + 1) k = lo L n k + cn L k (n + 1) := by
  unfold lo cn
  rw [← off_add]
  refine off_congr fun x _ => ?_
  show (if L x = 0 then 0 else if L x ≤ n + 1 then 1 else 0) = (if L x = 0 then 0 else if L x ≤ n then 1 else 0) + (if L x = n + 1 then 1 else 0)
  by_cases h0 : L x = 0
  · rw [if_pos h0, if_pos h0, if_neg (by omega)]
  · rw [if_neg h0, if_neg h0]
    by_cases h1 : L x ≤ n
    · rw [if_pos h1, if_pos (by omega), if_neg (by omega)]
    · rw [if_neg h1]
      by_cases h2 : L x = n + 1
      · rw [if_pos h2, if_pos (by omega)]
      · rw [if_neg h2, if_neg (by omega)]
theorem lo_zero (L : Nat → Nat) (k : Nat) : lo L 0 k = 0 := off_zero fun x _ => by
  by_cases h : L x = 0
  · rw [if_pos h]
  · rw [if_neg h, if_neg (by omega)]
theorem off_lo (L : Nat → Nat) (k : Nat) : ∀ n, off (fun i => cn L k (i + 1)) n = lo L n k
  | 0 => (lo_zero L k).symm
  | n + 1 => by
    show off _ n + cn L k (n + 1) = _
    rw [off_lo L k n, lo_step]
theorem come_lo (L : Nat → Nat) (n : Nat) : ∀ k, k ≤ 256 → (come L k).countP (fun b => decide (L b.toNat ≤ n)) = lo L n k
  | 0, _ => rfl
  | k + 1, h => by
    unfold come
    rw [List.countP_append, come_lo L n k (by omega)]
    show _ = off _ k + (if L k = 0 then 0 else if L k ≤ n then 1 else 0)
    unfold lo
    congr 1
    by_cases h0 : L k = 0
    · rw [if_pos h0, if_pos h0]; rfl
    · rw [if_neg h0, if_neg h0, List.countP_cons, toU_toNat k (by omega)]
      by_cases h1 : L k ≤ n
      · simp [h1]
      · simp [h1]
theorem count_sorted {α : Type} (g : α → Nat) (n : Nat) : ∀ (l : List α), l.Pairwise (fun a b => g a ≤ g b) → ∀ i (h : i < l.length), g l[i] ≤ n ↔ i < l.countP (fun b => decide (g b ≤ n))
  | [], _, i, h => by simp at h
  | a :: l, hp, i, h => by
    obtain ⟨h1, h2⟩ := List.pairwise_cons.1 hp
    by_cases ha : g a ≤ n
    · rw [List.countP_cons_of_pos (by simpa using ha)]
      cases i with
      | zero => simp [ha]
      | succ i =>
        have := count_sorted g n l h2 i (by simpa using h)
        simp only [List.getElem_cons_succ]
        rw [this]
        omega
    · rw [List.countP_cons_of_neg (by simpa using ha)]
      have h0 : l.countP (fun b => decide (g b ≤ n)) = 0 := by
        rw [List.countP_eq_zero]
        intro b hb
        have := h1 b hb
        simp
        omega
      rw [h0]
      cases i with
      | zero => simp [ha]
      | succ i =>
        simp only [List.getElem_cons_succ]
        have := h1 (l[i]'(by simpa using h)) (List.getElem_mem _)
        omega
theorem great_is {m : Nat → Nat} {n J : Nat} (hJ : J ≤ n) (_h0 : J ≠ 0) (hm : m J ≠ 0) (hz : ∀ i, J < i → i ≤ n → m i = 0) : great m n = J := by
  have h1 := great_le m n
  have h2 := great_out m n
  have h3 := great_ne m n
  rcases Nat.lt_trichotomy (great m n) J with h | h | h
  · exact absurd (h2 J h hJ) hm
  · exact h
  · exact absurd (hz _ h h1) (h3 (by omega))
/-- Nothing is made shorter: of each length there are as many codes as symbols of it. -/
theorem tabC_short (f : Nat → Nat) (y : Nat) (hy : y < 256) (hfy : f y ≠ 0) (h : off f 256 ≤ 2000) : tabC f = fun i => cn (lens f) 256 (i + 1) := by
  have hl := lens_all f y hy hfy
  have hs := lens_short f h
  have h256 : lens f 256 ≠ 0 := (hl.ne 256).2 Nat.one_ne_zero
  have hmax : ∀ x, x < 257 → lens f x ≤ lens f 256 := fun x _ => by
    by_cases hx : full f x = 0
    · have : ¬ lens f x ≠ 0 := fun h => (hl.ne x).1 h hx
      omega
    · exact lens_256 f x hx
  unfold tabC
  generalize lens f = L at *
  have hout : ∀ i, L 256 < i → m0 L 257 i = 0 := fun i hi => m0_out L 257 (L 256) hmax i hi
  have hoo : outr 256 (m0 L 257) = m0 L 257 := (outr_off (n := 16) (by omega) 240 (fun i h _ => hout i (by have := hs 256; omega))).trans (outr_done (by omega) _)
  rw [hoo]
  have hM : ∀ n, n ≠ 0 → m0 L 257 n = cn L 256 n + (if L 256 = n then 1 else 0) := fun n hn => by
    unfold m0
    rw [upd_ne _ _ hn]
    rfl
  have hg : great (m0 L 257) 16 = L 256 := great_is (by have := hs 256; omega) h256 (by rw [hM _ h256, if_pos rfl]; omega) fun i hi _ => hout i hi
  funext i
  unfold fin
  rw [hg]
  by_cases e : i + 1 = L 256
  · rw [e, upd_same, hM _ h256, if_pos rfl]
    omega
  · rw [upd_ne _ _ e, hM _ (by omega), if_neg (Ne.symm e), Nat.add_zero]
theorem clen_short (f : Nat → Nat) (y : Nat) (hy : y < 256) (hfy : f y ≠ 0) (h : off f 256 ≤ 2000) (x : Nat) (hx : x < 256) (hfx : f x ≠ 0) : clen (tabC f) (tabS f) x = lens f x := by
  have hR := tab_right f y hy hfy
  have hm := (tab_mem f y hy hfy x hx).2 hfx
  have hi := List.idxOf_lt_length_of_mem hm
  have he := List.getElem_idxOf hi
  have hv : lens f x ≠ 0 := ((lens_all f y hy hfy).ne x).2 (by unfold full; rw [if_neg (by omega), if_pos hx]; exact hfx)
  unfold clen
  rw [if_pos hm]
  have hC := tabC_short f y hy hfy h
  have hsort : (tabS f).Pairwise fun a b => lens f a.toNat ≤ lens f b.toNat := (syms_le (lens f)).imp fun h => by unfold Ahd at h; omega
  have hcount : ∀ n, (tabS f).countP (fun b => decide (lens f b.toNat ≤ n)) = off (tabC f) n := fun n => by
    rw [hC, off_lo, ← come_lo (lens f) n 256 (Nat.le_refl _)]
    exact (syms_perm (lens f)).countP_eq _
  have hlen : (tabS f)[(tabS f).idxOf x.toUInt8].toNat = x := by rw [he, toU_toNat x hx]
  generalize hidx : (tabS f).idxOf x.toUInt8 = i at *
  have c1 := (count_sorted (fun b : UInt8 => lens f b.toNat) (lens f x) _ hsort i hi).1 (by show lens f _ ≤ _; rw [hlen]; exact Nat.le_refl _)
  have c2 : ¬ i < (tabS f).countP (fun b => decide (lens f b.toNat ≤ lens f x - 1)) := fun hh => by
    have := (count_sorted (fun b : UInt8 => lens f b.toNat) (lens f x - 1) _ hsort i hi).2 hh
    have h2 : lens f (tabS f)[i].toNat ≤ lens f x - 1 := this
    rw [hlen] at h2
    omega
  rw [hcount] at c1 c2
  obtain ⟨s1, s2, s3⟩ := lvl_spec (tabC f) i (by rw [hR.sum]; exact hi)
  have hoff : off (tabC f) (lens f x) = off (tabC f) (lens f x - 1) + tabC f (lens f x - 1) := by
    obtain ⟨q, hq⟩ : ∃ q, lens f x = q + 1 := ⟨lens f x - 1, by omega⟩
    rw [hq]
    rfl
  have := lvl_unique (tabC f) i (lvl (tabC f) i) (lens f x - 1) s2 s3 (by omega) (by omega)
  unfold codeL
  omega
end Go.Proofs.Ytlfnjdgfllhepaa
