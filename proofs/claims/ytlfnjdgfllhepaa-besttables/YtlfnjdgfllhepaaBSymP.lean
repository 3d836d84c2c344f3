/- Symbols by rising lengths: plain functions, no program in it. -/
import Derived.Test.YtlfnjdgfllhepaaBSort
namespace Go.Proofs.Ytlfnjdgfllhepaa
open Go.Sort Go.Shelf

/-- The symbols that come, below a number. -/
def come (L : Nat → Nat) : Nat → List UInt8
  | 0 => []
  | k + 1 => come L k ++ (if L k = 0 then [] else [k.toUInt8])
theorem come_length (L : Nat → Nat) : ∀ k, (come L k).length ≤ k
  | 0 => Nat.le_refl _
  | k + 1 => by
    have := come_length L k
    unfold come
    rw [List.length_append]
    split <;> simp <;> omega
theorem toU_toNat (k : Nat) (h : k < 256) : k.toUInt8.toNat = k := by
  simp [Nat.toUInt8, UInt8.toNat, UInt8.ofNat, BitVec.toNat_ofNat]; omega
theorem come_mem (L : Nat → Nat) (b : UInt8) : ∀ k, k ≤ 256 → (b ∈ come L k ↔ b.toNat < k ∧ L b.toNat ≠ 0)
  | 0, _ => by simp [come]
  | k + 1, hk => by
    unfold come
    rw [List.mem_append, come_mem L b k (by omega)]
    have hb := toU_toNat k (by omega)
    have : b ∈ (if L k = 0 then [] else [k.toUInt8]) ↔ b.toNat = k ∧ L k ≠ 0 := by
      by_cases h : L k = 0
      · simp [h]
      · rw [if_neg h, List.mem_singleton]
        constructor
        · rintro rfl; exact ⟨hb, h⟩
        · rintro ⟨h1, _⟩
          apply UInt8.toNat_inj.1
          rw [hb]; exact h1
    rw [this]
    constructor
    · rintro (⟨h1, h2⟩ | ⟨h1, h2⟩)
      · exact ⟨by omega, h2⟩
      · exact ⟨by omega, by rw [h1]; exact h2⟩
    · rintro ⟨h1, h2⟩
      by_cases e : b.toNat = k
      · exact .inr ⟨e, by rw [← e]; exact h2⟩
      · exact .inl ⟨by omega, h2⟩
theorem come_lt (L : Nat → Nat) : ∀ k, k ≤ 256 → (come L k).Pairwise fun a b => a.toNat < b.toNat
  | 0, _ => List.Pairwise.nil
  | k + 1, hk => by
    unfold come
    refine List.pairwise_append.2 ⟨come_lt L k (by omega), ?_, ?_⟩
    · split
      · exact List.Pairwise.nil
      · exact List.pairwise_singleton _ _
    · intro a ha b hb
      have h1 := ((come_mem L a k (by omega)).1 ha).1
      by_cases h : L k = 0
      · rw [if_pos h] at hb; cases hb
      · rw [if_neg h, List.mem_singleton] at hb
        rw [hb, toU_toNat k (by omega)]
        exact h1
/-- Which of two comes first. -/
def cfL (L : Nat → Nat) (a b : UInt8) : Int := or2 (cmpN (L a.toNat) (L b.toNat)) (cmpN a.toNat b.toNat)
/-- One comes ahead of another: a shorter length, or the same and a smaller number. -/
def Ahd (L : Nat → Nat) (a b : UInt8) : Prop := L a.toNat < L b.toNat ∨ L a.toNat = L b.toNat ∧ a.toNat < b.toNat
theorem ltL (L : Nat → Nat) (a b : UInt8) : ltOf (cfL L) a b = true ↔ Ahd L a b := by
  unfold ltOf cfL or2 cmpN Ahd
  rw [decide_eq_true_iff]
  rcases Nat.lt_trichotomy (L a.toNat) (L b.toNat) with h | h | h
  · simp [h]
  · rw [h]
    rcases Nat.lt_trichotomy a.toNat b.toNat with h' | h' | h'
    · simp [h']
    · simp [h']
    · have h2 : ¬ a.toNat < b.toNat := by omega
      simp [h', h2]
  · have h2 : ¬ L a.toNat < L b.toNat := by omega
    have h3 : L a.toNat ≠ L b.toNat := by omega
    simp [h, h2, h3]
theorem ltL_false (L : Nat → Nat) (a b : UInt8) : ltOf (cfL L) a b = false ↔ ¬ Ahd L a b := by
  rw [← ltL]
  simp
theorem swoL (L : Nat → Nat) : SWO (ltOf (cfL L)) where
  irrefl x := by rw [ltL_false]; unfold Ahd; omega
  trans x y z h1 h2 := by rw [ltL] at *; unfold Ahd at *; omega
  ntrans x y z h1 h2 := by rw [ltL_false] at *; unfold Ahd at *; omega
theorem totL (L : Nat → Nat) (x y : UInt8) (h1 : ltOf (cfL L) x y = false) (h2 : ltOf (cfL L) y x = false) : x = y := by
  rw [ltL_false] at *
  unfold Ahd at *
  apply UInt8.toNat_inj.1
  omega
/-- The symbols in their order. -/
def syms (L : Nat → Nat) : List UInt8 := (come L 256).mergeSort fun x y => !ltOf (cfL L) y x
theorem syms_perm (L : Nat → Nat) : (syms L).Perm (come L 256) := List.mergeSort_perm _ _
theorem syms_length (L : Nat → Nat) : (syms L).length = (come L 256).length := (syms_perm L).length_eq
theorem syms_mem (L : Nat → Nat) (b : UInt8) : b ∈ syms L ↔ L b.toNat ≠ 0 := by
  rw [(syms_perm L).mem_iff, come_mem L b 256 (Nat.le_refl _)]
  have := b.toNat_lt
  exact ⟨fun h => h.2, fun h => ⟨by omega, h⟩⟩
theorem syms_nodup (L : Nat → Nat) : (syms L).Nodup := by
  refine (syms_perm L).nodup_iff.2 ?_
  exact (come_lt L 256 (Nat.le_refl _)).imp fun h e => by subst e; omega
theorem syms_le (L : Nat → Nat) : (syms L).Pairwise fun a b => ¬ Ahd L b a := by
  have h := List.pairwise_mergeSort (le := fun x y => !ltOf (cfL L) y x) (fun a b c h1 h2 => by
    simp only [Bool.not_eq_true'] at *
    rw [ltL_false] at *
    unfold Ahd at *
    omega) (fun a b => by
    simp only [Bool.or_eq_true, Bool.not_eq_true', ltL_false]
    unfold Ahd
    omega) (come L 256)
  refine h.imp fun h => ?_
  simp only [Bool.not_eq_true'] at h
  rwa [ltL_false] at h
/-- Whatever list has just these, in that order, is it. -/
theorem syms_unique (L : Nat → Nat) (l : List UInt8) (hm : ∀ b, b ∈ l ↔ L b.toNat ≠ 0) (hs : l.Pairwise fun a b => Ahd L a b) : l = syms L := by
  have hn : l.Nodup := hs.imp fun h e => by subst e; unfold Ahd at h; omega
  have hp : l.Perm (syms L) := (List.perm_ext_iff_of_nodup hn (syms_nodup L)).2 fun b => by rw [hm, syms_mem]
  refine hp.eq_of_pairwise (le := fun a b => ¬ Ahd L b a) ?_ (hs.imp fun h => ?_) (syms_le L)
  · intro a b _ _ h1 h2
    apply UInt8.toNat_inj.1
    unfold Ahd at *
    omega
  · unfold Ahd at *; omega
end Go.Proofs.Ytlfnjdgfllhepaa
