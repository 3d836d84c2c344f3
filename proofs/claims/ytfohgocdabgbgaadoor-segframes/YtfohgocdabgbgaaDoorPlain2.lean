/- Reading bits of bytes: plain functions; no program in it. -/
import Derived.Test.YtfohgocdabgbgaaDoorPlain
namespace Go.Proofs.YtfohgocdabgbgaaDoor

/-- The number of the data's byte at a place, and how many bytes it takes (0: the data ends). -/
def dbyte (l : List UInt8) (a : Nat) : Nat × Nat :=
  match l[a]? with
  | none => (0, 0)
  | some b => if b = 255 then (if l[a + 1]? = some 0 then (255, 2) else (0, 0)) else (b.toNat, 1)
theorem dbyte_lt (l : List UInt8) (a : Nat) : (dbyte l a).1 < 256 := by
  unfold dbyte
  split
  · simp
  · split
    · split <;> simp
    · exact UInt8.toNat_lt _
theorem dbyte_le (l : List UInt8) (a : Nat) (h : a ≤ l.length) : a + (dbyte l a).2 ≤ l.length := by
  unfold dbyte
  split
  · simpa using h
  · rename_i b hb
    have h1 := (List.getElem?_eq_some_iff.1 hb).1
    split
    · split
      · rename_i h2
        have h3 := (List.getElem?_eq_some_iff.1 h2).1
        simp; omega
      · simpa using h
    · simp; omega

/-- How many bytes ff stand ahead. -/
def ffs : List UInt8 → Nat
  | [] => 0
  | b :: l => if b = 255 then ffs l + 1 else 0
theorem ffs_at (l : List UInt8) (a : Nat) : ffs (l.drop a) = if l[a]? = some 255 then ffs (l.drop (a + 1)) + 1 else 0 := by
  by_cases h : a < l.length
  · rw [List.drop_eq_getElem_cons h, ffs, List.getElem?_eq_getElem h]
    simp
  · rw [List.drop_eq_nil_of_le (by omega), List.getElem?_eq_none (by omega)]
    simp [ffs]
theorem ffs_le : ∀ (l : List UInt8), ffs l ≤ l.length
  | [] => by simp [ffs]
  | b :: l => by
    have := ffs_le l
    rw [ffs]
    split <;> simp <;> omega
/-- The code of a marker at a place, and how many bytes it takes. -/
def mark (l : List UInt8) (a : Nat) : Nat × Nat :=
  match l[a + ffs (l.drop a)]? with
  | none => (0, 0)
  | some b => if ffs (l.drop a) = 0 ∨ b = 0 then (0, 0) else (b.toNat, ffs (l.drop a) + 1)
theorem mark_or (l : List UInt8) (a : Nat) : (mark l a = (0, 0)) ∨ (1 ≤ (mark l a).1 ∧ (mark l a).1 ≤ 255 ∧ 1 ≤ (mark l a).2 ∧ a + (mark l a).2 ≤ l.length) := by
  unfold mark
  split
  · exact .inl rfl
  · rename_i b hb
    have h1 := (List.getElem?_eq_some_iff.1 hb).1
    split
    · exact .inl rfl
    · rename_i h2
      have h3 := b.toNat_lt
      have h4 : b.toNat ≠ 0 := fun e => h2 (.inr (by rw [← UInt8.toNat_inj]; exact e))
      simp; omega

/-- The place behind a marker (0: there is none). -/
def mend (l : List UInt8) (a : Nat) : Nat := if (mark l a).1 = 0 then 0 else a + (mark l a).2

/-- The bits behind a place, till there are so many; the place behind them. -/
def fetchN (l : List UInt8) (n : Nat) : Nat → Nat → List Bool → Option (Nat × List Bool)
  | 0, a, H => some (a, H)
  | k + 1, a, H => if n ≤ H.length then some (a, H) else if (dbyte l a).2 = 0 then none else fetchN l n k (a + (dbyte l a).2) (H ++ bitsOf (dbyte l a).1 8)
theorem fetchN_eq (l : List UInt8) (n : Nat) : ∀ (k m a : Nat) (H : List Bool), n - H.length ≤ k → n - H.length ≤ m → fetchN l n k a H = fetchN l n m a H
  | 0, 0, _, _, _, _ => rfl
  | 0, m + 1, a, H, h, _ => (if_pos (show n ≤ H.length by omega)).symm
  | k + 1, 0, a, H, _, h => if_pos (show n ≤ H.length by omega)
  | k + 1, m + 1, a, H, h, h' => by
    show (if n ≤ H.length then some (a, H) else if (dbyte l a).2 = 0 then none else fetchN l n k (a + (dbyte l a).2) (H ++ bitsOf (dbyte l a).1 8)) = if n ≤ H.length then some (a, H) else if (dbyte l a).2 = 0 then none else fetchN l n m (a + (dbyte l a).2) (H ++ bitsOf (dbyte l a).1 8)
    by_cases hn : n ≤ H.length
    · rw [if_pos hn, if_pos hn]
    · rw [fetchN_eq l n k m (a + (dbyte l a).2) (H ++ bitsOf (dbyte l a).1 8) (by rw [List.length_append, bitsOf_length]; omega) (by rw [List.length_append, bitsOf_length]; omega)]
def fetch (l : List UInt8) (n a : Nat) (H : List Bool) : Option (Nat × List Bool) := fetchN l n (n - H.length) a H
theorem fetch_done (l : List UInt8) (n a : Nat) (H : List Bool) (h : n ≤ H.length) : fetch l n a H = some (a, H) := by
  unfold fetch
  rw [Nat.sub_eq_zero_of_le h]
  rfl
theorem fetch_step (l : List UInt8) (n a : Nat) (H : List Bool) (h : H.length < n) : fetch l n a H = if (dbyte l a).2 = 0 then none else fetch l n (a + (dbyte l a).2) (H ++ bitsOf (dbyte l a).1 8) := by
  unfold fetch
  rw [fetchN_eq l n (n - H.length) (n - H.length + 1) a H (Nat.le_refl _) (Nat.le_succ _), fetchN_eq l n (n - (H ++ bitsOf (dbyte l a).1 8).length) (n - H.length) _ _ (Nat.le_refl _) (by rw [List.length_append, bitsOf_length]; omega)]
  exact if_neg (by omega)
theorem fetch_none (l : List UInt8) (n a : Nat) (H : List Bool) (h : H.length < n) (h0 : (dbyte l a).2 = 0) : fetch l n a H = none := by rw [fetch_step l n a H h, if_pos h0]
theorem fetch_more (l : List UInt8) (n a : Nat) (H : List Bool) (h : H.length < n) (h0 : (dbyte l a).2 ≠ 0) : fetch l n a H = fetch l n (a + (dbyte l a).2) (H ++ bitsOf (dbyte l a).1 8) := by
  rw [fetch_step l n a H h, if_neg h0]
/-- What a reader answers, the place then, the bits then, the error. -/
def rbits (l : List UInt8) (n : Int) (a : Nat) (H : List Bool) : Nat × Nat × List Bool × Nat :=
  if n < 0 ∨ 16 < n then (0, a, H, 1) else
  match fetch l n.toNat a H with
  | none => (0, a, H, 2)
  | some (b, G) => (val (G.take n.toNat), b, G.drop n.toNat, 0)
theorem rbits_none (l : List UInt8) (n a : Nat) (H : List Bool) (hn : n ≤ 16) (h : fetch l n a H = none) : rbits l n a H = (0, a, H, 2) := by
  unfold rbits; rw [if_neg (by omega), Int.toNat_natCast, h]
theorem rbits_some (l : List UInt8) (n a : Nat) (H : List Bool) (hn : n ≤ 16) (b : Nat) (G : List Bool) (h : fetch l n a H = some (b, G)) : rbits l n a H = (val (G.take n), b, G.drop n, 0) := by
  unfold rbits; rw [if_neg (by omega), Int.toNat_natCast, h]
theorem fetch_bounds (l : List UInt8) (n : Nat) : ∀ (m a : Nat) (H : List Bool), n - H.length ≤ m → a ≤ l.length → (H.length < n + 8) → ∀ b G, fetch l n a H = some (b, G) → b ≤ l.length ∧ n ≤ G.length ∧ G.length < n + 8 := by
  intro m
  induction m with
  | zero =>
    intro a H hm ha hH b G h
    rw [fetch_done l n a H (by omega)] at h
    obtain ⟨rfl, rfl⟩ := by simpa using h
    exact ⟨ha, by omega, hH⟩
  | succ m ih =>
    intro a H hm ha hH b G h
    by_cases h1 : n ≤ H.length
    · rw [fetch_done l n a H h1] at h
      obtain ⟨rfl, rfl⟩ := by simpa using h
      exact ⟨ha, h1, hH⟩
    · by_cases h0 : (dbyte l a).2 = 0
      · rw [fetch_none l n a H (by omega) h0] at h
        cases h
      · rw [fetch_more l n a H (by omega) h0] at h
        exact ih _ _ (by rw [List.length_append, bitsOf_length]; omega) (dbyte_le l a ha) (by rw [List.length_append, bitsOf_length]; omega) b G h
theorem rbits_bounds (l : List UInt8) (n : Int) (a : Nat) (H : List Bool) (ha : a ≤ l.length) (hH : H.length < 8) : (rbits l n a H).2.1 ≤ l.length ∧ (rbits l n a H).2.2.1.length < 8 := by
  unfold rbits
  split
  · exact ⟨ha, hH⟩
  · split
    · exact ⟨ha, hH⟩
    · rename_i b G h
      have := fetch_bounds l n.toNat (n.toNat - H.length) a H (Nat.le_refl _) ha (by omega) b G h
      refine ⟨this.1, ?_⟩
      simp only [List.length_drop]
      omega
end Go.Proofs.YtfohgocdabgbgaaDoor
