/- How many codes of each length there are; made shorter to 16; one goes: plain functions, no program in it. -/
import Derived.Test.YtlfnjdgfllhepaaBPlain
namespace Go.Proofs.Ytlfnjdgfllhepaa

/-- What codes fill, told at a length. -/
def ks (m : Nat → Nat) : Nat → Nat
  | 0 => m 0
  | n + 1 => 2 * ks m n + m (n + 1)
theorem ks_congr {m m' : Nat → Nat} : ∀ {n : Nat}, (∀ i, i ≤ n → m i = m' i) → ks m n = ks m' n
  | 0, h => h 0 (Nat.le_refl _)
  | n + 1, h => by
    show 2 * ks m n + m (n + 1) = 2 * ks m' n + m' (n + 1)
    rw [ks_congr fun i hi => h i (by omega), h (n + 1) (Nat.le_refl _)]
theorem ks_upd (m : Nat → Nat) (i v : Nat) : ∀ n, i ≤ n → ks (upd m i v) n + m i * 2 ^ (n - i) = ks m n + v * 2 ^ (n - i)
  | 0, h => by
    obtain rfl : i = 0 := by omega
    show upd m 0 v 0 + m 0 * 2 ^ 0 = m 0 + v * 2 ^ 0
    rw [upd_same]
    omega
  | n + 1, h => by
    show 2 * ks (upd m i v) n + upd m i v (n + 1) + m i * 2 ^ (n + 1 - i) = 2 * ks m n + m (n + 1) + v * 2 ^ (n + 1 - i)
    by_cases e : i = n + 1
    · subst e
      rw [upd_same, ks_congr (m' := m) fun j hj => upd_ne m v (by omega), Nat.sub_self, Nat.pow_zero, Nat.mul_one, Nat.mul_one]
      omega
    · have ih := ks_upd m i v n (by omega)
      rw [upd_ne m v (Ne.symm e), show n + 1 - i = (n - i) + 1 by omega, Nat.pow_succ, ← Nat.mul_assoc, ← Nat.mul_assoc]
      generalize m i * 2 ^ (n - i) = A at *
      generalize v * 2 ^ (n - i) = B at *
      omega
theorem ks_zero {m : Nat → Nat} : ∀ {n : Nat}, (∀ i, i ≤ n → m i = 0) → ks m n = 0
  | 0, h => h 0 (Nat.le_refl _)
  | n + 1, h => by
    show 2 * ks m n + m (n + 1) = 0
    rw [ks_zero fun i hi => h i (by omega), h (n + 1) (Nat.le_refl _)]
theorem ks_up (m : Nat → Nat) (n : Nat) : ∀ k, 2 ^ k * ks m n ≤ ks m (n + k)
  | 0 => by rw [Nat.pow_zero, Nat.one_mul]; exact Nat.le_refl _
  | k + 1 => by
    have h := ks_up m n k
    show _ ≤ 2 * ks m (n + k) + m (n + k + 1)
    rw [Nat.pow_succ, Nat.mul_comm _ 2, Nat.mul_assoc]
    omega

/-- How many of the first k have each length. -/
def cn (L : Nat → Nat) (k n : Nat) : Nat := off (fun x => if L x = n then 1 else 0) k
theorem cn_step (L : Nat → Nat) (k : Nat) : cn L (k + 1) = upd (cn L k) (L k) (cn L k (L k) + 1) := by
  funext n
  show cn L k n + (if L k = n then 1 else 0) = _
  by_cases e : n = L k
  · subst e; rw [upd_same, if_pos rfl]
  · rw [upd_ne _ _ e, if_neg (Ne.symm e)]; omega
theorem cn_le (L : Nat → Nat) (k n : Nat) : cn L k n ≤ k := by
  have := off_mono (f := fun x => if L x = n then 1 else 0) (g := fun _ => 1) (n := k) fun i _ => by
    show (if L i = n then 1 else 0) ≤ 1
    split <;> omega
  rw [off_one] at this
  exact this
def m0 (L : Nat → Nat) (k : Nat) : Nat → Nat := upd (cn L k) 0 0
theorem m0_step (L : Nat → Nat) (k : Nat) : m0 L (k + 1) = if L k = 0 then m0 L k else upd (m0 L k) (L k) (m0 L k (L k) + 1) := by
  unfold m0
  rw [cn_step]
  by_cases e : L k = 0
  · rw [if_pos e, e]
    funext n
    by_cases e1 : n = 0
    · subst e1; rw [upd_same, upd_same]
    · rw [upd_ne _ _ e1, upd_ne _ _ e1, upd_ne _ _ e1]
  · rw [if_neg e]
    funext n
    by_cases e1 : n = 0
    · subst e1; rw [upd_same, upd_ne _ _ (Ne.symm e), upd_same]
    · rw [upd_ne _ _ e1, upd_ne _ _ e]
      by_cases e2 : n = L k
      · subst e2; rw [upd_same, upd_same]
      · rw [upd_ne _ _ e2, upd_ne _ _ e2, upd_ne _ _ e1]
theorem m0_ks (L : Nat → Nat) (N : Nat) : ∀ k, (∀ x, x < k → L x ≤ N) → ks (m0 L k) N = off (fun x => if L x = 0 then 0 else 2 ^ (N - L x)) k
  | 0, _ => ks_zero fun i _ => by
    unfold m0 upd
    split <;> rfl
  | k + 1, h => by
    have ih := m0_ks L N k fun x hx => h x (by omega)
    rw [m0_step]
    show _ = off _ k + (if L k = 0 then 0 else 2 ^ (N - L k))
    by_cases e : L k = 0
    · rw [if_pos e, if_pos e, ih]; rfl
    · rw [if_neg e, if_neg e]
      have h1 := ks_upd (m0 L k) (L k) (m0 L k (L k) + 1) N (h k (by omega))
      rw [Nat.add_mul, Nat.one_mul] at h1
      omega
theorem m0_sum (L : Nat → Nat) (N : Nat) : ∀ k, (∀ x, x < k → L x < N) → off (m0 L k) N = off (fun x => if L x = 0 then 0 else 1) k
  | 0, _ => off_zero fun i _ => by
    unfold m0 upd
    split <;> rfl
  | k + 1, h => by
    have ih := m0_sum L N k fun x hx => h x (by omega)
    rw [m0_step]
    show _ = off _ k + (if L k = 0 then 0 else 1)
    by_cases e : L k = 0
    · rw [if_pos e, if_pos e, ih]; rfl
    · rw [if_neg e, if_neg e]
      have h1 := off_upd (m0 L k) (L k) (m0 L k (L k) + 1) N (h k (by omega))
      omega
theorem m0_out (L : Nat → Nat) (k N : Nat) (h : ∀ x, x < k → L x ≤ N) (i : Nat) (hi : N < i) : m0 L k i = 0 := by
  unfold m0
  rw [upd_ne _ _ (by omega)]
  exact off_zero fun x hx => if_neg (by have := h x hx; omega)

/-- The greatest length up to this one of which there are codes. -/
def great (m : Nat → Nat) : Nat → Nat
  | 0 => 0
  | n + 1 => if m (n + 1) = 0 then great m n else n + 1
theorem great_le (m : Nat → Nat) : ∀ n, great m n ≤ n
  | 0 => Nat.le_refl _
  | n + 1 => by
    have := great_le m n
    unfold great
    split <;> omega
theorem great_ne (m : Nat → Nat) : ∀ n, great m n ≠ 0 → m (great m n) ≠ 0
  | 0, h => absurd rfl h
  | n + 1, h => by
    unfold great at h ⊢
    split
    · rename_i e
      rw [if_pos e] at h
      exact great_ne m n h
    · assumption
theorem great_out (m : Nat → Nat) : ∀ n i, great m n < i → i ≤ n → m i = 0
  | 0, i, h, h' => by
    have : great m 0 = 0 := rfl
    omega
  | n + 1, i, h, h' => by
    unfold great at h
    split at h
    · rename_i e
      by_cases e1 : i = n + 1
      · subst e1; exact e
      · exact great_out m n i h (by omega)
    · omega
theorem great_congr {m m' : Nat → Nat} : ∀ {n : Nat}, (∀ i, i ≤ n → m i = m' i) → great m n = great m' n
  | 0, _ => rfl
  | n + 1, h => by
    show (if m (n + 1) = 0 then great m n else n + 1) = if m' (n + 1) = 0 then great m' n else n + 1
    rw [great_congr fun i hi => h i (by omega), h (n + 1) (Nat.le_refl _)]

/-- Two codes of a length go, one comes of one bit less. -/
def sh1 (m : Nat → Nat) (n : Nat) : Nat → Nat := upd (upd m n (m n - 2)) (n - 1) (m (n - 1) + 1)
/-- Of a shorter one goes one, two come of one bit more. -/
def sh2 (m : Nat → Nat) (J : Nat) : Nat → Nat := upd (upd m J (m J - 1)) (J + 1) (m (J + 1) + 2)
def shc (m : Nat → Nat) (n : Nat) : Nat → Nat := sh2 (sh1 m n) (great m (n - 2))

/-- Codes of lengths up to n that fill all just. -/
structure Kr (m : Nat → Nat) (n T : Nat) : Prop where
  zero : m 0 = 0
  out : ∀ i, n < i → m i = 0
  fill : ks m n = 2 ^ n
  sum : off m 300 = T
  few : T ≤ 257

theorem Kr.even {m : Nat → Nat} {n T : Nat} (h : Kr m (n + 1) T) : m (n + 1) % 2 = 0 := by
  have h1 := h.fill
  rw [Nat.pow_succ] at h1
  have h2 : ks m (n + 1) = 2 * ks m n + m (n + 1) := rfl
  omega
theorem Kr.down {m : Nat → Nat} {n T : Nat} (h : Kr m (n + 1) T) (h0 : m (n + 1) = 0) : Kr m n T := by
  refine ⟨h.zero, fun i hi => ?_, ?_, h.sum, h.few⟩
  · by_cases e : i = n + 1
    · subst e; exact h0
    · exact h.out i (by omega)
  · have h1 := h.fill
    rw [Nat.pow_succ] at h1
    have h2 : ks m (n + 1) = 2 * ks m n + m (n + 1) := rfl
    omega
theorem Kr.shorter {m : Nat → Nat} {n T : Nat} (h : Kr m n T) (hn : 17 ≤ n) (hn' : n < 300) : 1 ≤ great m (n - 2) := by
  apply Nat.pos_of_ne_zero
  intro e
  have hz : ∀ i, i ≤ n - 2 → m i = 0 := by
    intro i hi
    by_cases e1 : i = 0
    · subst e1; exact h.zero
    · exact great_out m (n - 2) i (by omega) hi
  have h1 := ks_zero hz
  have h2 : ks m n = 2 * (2 * ks m (n - 2) + m (n - 1)) + m n := by
    obtain ⟨k, rfl⟩ : ∃ k, n = k + 2 := ⟨n - 2, by omega⟩
    rfl
  have h3 := off_two m (i := n - 1) (j := n) (n := 300) (by omega) hn' (by omega)
  have h4 := h.fill
  have h5 := h.few
  have h6 := h.sum
  have h7 : 2 ^ 17 ≤ 2 ^ n := Nat.pow_le_pow_right (by omega) hn
  omega

theorem sh1_at (m : Nat → Nat) (n i : Nat) (h : i ≤ n - 2) (hn : 2 ≤ n) : sh1 m n i = m i := by
  unfold sh1
  rw [upd_ne _ _ (by omega), upd_ne _ _ (by omega)]
theorem shc_top (m : Nat → Nat) (n : Nat) (hn : 2 ≤ n) : shc m n n = m n - 2 := by
  have hJ := great_le m (n - 2)
  unfold shc sh2 sh1
  rw [upd_ne _ _ (by omega), upd_ne _ _ (by omega), upd_ne _ _ (by omega), upd_same]
theorem Kr.shc {m : Nat → Nat} {n T : Nat} (h : Kr m n T) (hn : 17 ≤ n) (hn' : n < 300) (h0 : m n ≠ 0) : Kr (shc m n) n T ∧ 2 ≤ m n := by
  have h2 : 2 ≤ m n := by
    obtain ⟨k, rfl⟩ : ∃ k, n = k + 1 := ⟨n - 1, by omega⟩
    have := h.even
    omega
  refine ⟨?_, h2⟩
  have hJ := great_le m (n - 2)
  have hJ1 := h.shorter hn hn'
  have hJ2 := great_ne m (n - 2) (by omega)
  have hs : ∀ i, i ≤ n - 2 → sh1 m n i = m i := fun i hi => sh1_at m n i hi (by omega)
  unfold Go.Proofs.Ytlfnjdgfllhepaa.shc
  generalize hJJ : great m (n - 2) = J at *
  have hs1 := hs J hJ
  have hne : n - 1 ≠ n := by omega
  -- what is filled
  have k1 := ks_upd m n (m n - 2) n (Nat.le_refl _)
  have k2 := ks_upd (upd m n (m n - 2)) (n - 1) (m (n - 1) + 1) n (by omega)
  have k3 := ks_upd (sh1 m n) J (sh1 m n J - 1) n (by omega)
  have k4 := ks_upd (upd (sh1 m n) J (sh1 m n J - 1)) (J + 1) (sh1 m n (J + 1) + 2) n (by omega)
  rw [upd_ne _ _ hne] at k2
  rw [upd_ne _ _ (by omega : J + 1 ≠ J)] at k4
  have e1 : 2 ^ (n - (n - 1)) = 2 := by rw [show n - (n - 1) = 1 by omega]
  have e2 : 2 ^ (n - J) = 2 * 2 ^ (n - (J + 1)) := by rw [show n - J = (n - (J + 1)) + 1 by omega, Nat.pow_succ, Nat.mul_comm]
  rw [Nat.sub_self, Nat.pow_zero, Nat.mul_one, Nat.mul_one] at k1
  rw [e1] at k2
  rw [hs1] at k3
  -- how many there are
  have s1 := off_upd m n (m n - 2) 300 hn'
  have s2 := off_upd (upd m n (m n - 2)) (n - 1) (m (n - 1) + 1) 300 (by omega)
  have s3 := off_upd (sh1 m n) J (sh1 m n J - 1) 300 (by omega)
  have s4 := off_upd (upd (sh1 m n) J (sh1 m n J - 1)) (J + 1) (sh1 m n (J + 1) + 2) 300 (by omega)
  rw [upd_ne _ _ hne] at s2
  rw [upd_ne _ _ (by omega : J + 1 ≠ J)] at s4
  rw [hs1] at s3
  change ks (sh1 m n) n + _ = _ at k2
  change off (sh1 m n) 300 + _ = _ at s2
  change ks (sh2 (sh1 m n) J) n + _ = _ at k4
  change off (sh2 (sh1 m n) J) 300 + _ = _ at s4
  rw [hs1] at k4 s4
  refine ⟨?_, ?_, ?_, ?_, h.few⟩
  · show upd (upd (sh1 m n) J _) (J + 1) _ 0 = 0
    rw [upd_ne _ _ (by omega), upd_ne _ _ (by omega), hs 0 (by omega)]
    exact h.zero
  · intro i hi
    show upd (upd (sh1 m n) J _) (J + 1) _ i = 0
    rw [upd_ne _ _ (by omega), upd_ne _ _ (by omega)]
    show upd (upd m n _) (n - 1) _ i = 0
    rw [upd_ne _ _ (by omega), upd_ne _ _ (by omega)]
    exact h.out i hi
  · have hf := h.fill
    generalize sh1 m n (J + 1) = X at *
    generalize 2 ^ (n - (J + 1)) = P at *
    rw [e2] at k3
    have d1 : m J * (2 * P) = (m J - 1) * (2 * P) + 2 * P := by
      obtain ⟨q, hq⟩ : ∃ q, m J = q + 1 := ⟨m J - 1, by omega⟩
      rw [hq, Nat.add_sub_cancel, Nat.add_mul, Nat.one_mul]
    have d2 : (X + 2) * P = X * P + 2 * P := by rw [Nat.add_mul]
    rw [d1] at k3
    rw [d2] at k4
    generalize (m J - 1) * (2 * P) = Y at *
    generalize X * P = Z at *
    omega
  · have := h.sum
    omega

/-- Till there are none of a length. -/
def inn : Nat → (Nat → Nat) → Nat → (Nat → Nat)
  | 0, m, _ => m
  | f + 1, m, n => if m n = 0 then m else inn f (shc m n) n
def innr (m : Nat → Nat) (n : Nat) : Nat → Nat := inn (m n) m n
theorem inn_more (n : Nat) (hn : 2 ≤ n) : ∀ f m, m n ≤ f → inn f m n = innr m n := by
  intro f
  induction f using Nat.strongRecOn with
  | ind f ih =>
    intro m hm
    unfold innr
    cases f with
    | zero => rw [show m n = 0 by omega]
    | succ f =>
      by_cases e : m n = 0
      · rw [e]; exact if_pos e
      · obtain ⟨g, hg⟩ : ∃ g, m n = g + 1 := ⟨m n - 1, by omega⟩
        have ht := shc_top m n hn
        rw [hg]
        show (if m n = 0 then m else inn f (shc m n) n) = if m n = 0 then m else inn g (shc m n) n
        rw [if_neg e, if_neg e]
        by_cases q : f = g
        · rw [q]
        · rw [ih f (by omega) _ (by omega), ih g (by omega) _ (by omega)]
theorem innr_done {m : Nat → Nat} {n : Nat} (h : m n = 0) : innr m n = m := by
  unfold innr
  rw [h]
  rfl
theorem innr_step {m : Nat → Nat} {n : Nat} (hn : 2 ≤ n) (h : m n ≠ 0) : innr m n = innr (shc m n) n := by
  obtain ⟨g, hg⟩ : ∃ g, m n = g + 1 := ⟨m n - 1, by omega⟩
  have ht := shc_top m n hn
  rw [← inn_more n hn g (shc m n) (by omega)]
  unfold innr
  rw [hg]
  exact if_neg h
theorem Kr.innr {n T : Nat} (hn : 17 ≤ n) (hn' : n < 300) : ∀ f m, m n ≤ f → Kr m n T → Kr (innr m n) n T ∧ Go.Proofs.Ytlfnjdgfllhepaa.innr m n n = 0 := by
  intro f
  induction f with
  | zero =>
    intro m hm h
    rw [innr_done (by omega)]
    exact ⟨h, by omega⟩
  | succ f ih =>
    intro m hm h
    by_cases e : m n = 0
    · rw [innr_done e]; exact ⟨h, e⟩
    · have := shc_top m n (by omega)
      rw [innr_step (by omega) e]
      exact ih _ (by omega) (h.shc hn hn' e).1
def outr : Nat → (Nat → Nat) → (Nat → Nat)
  | 0, m => m
  | k + 1, m => if k + 1 ≤ 16 then m else outr k (innr m (k + 1))
theorem outr_done {k : Nat} (h : k ≤ 16) (m : Nat → Nat) : outr k m = m := by
  cases k with
  | zero => rfl
  | succ k => exact if_pos h
theorem outr_step {k : Nat} (h : 16 < k) (m : Nat → Nat) : outr k m = outr (k - 1) (innr m k) := by
  cases k with
  | zero => omega
  | succ k => exact if_neg (by omega)
theorem Kr.outr {T : Nat} : ∀ k m, 16 ≤ k → k < 300 → Kr m k T → Kr (outr k m) 16 T := by
  intro k
  induction k with
  | zero => intro m h; omega
  | succ k ih =>
    intro m h1 h2 h
    by_cases e : k + 1 ≤ 16
    · obtain rfl : k = 15 := by omega
      rw [outr_done e]; exact h
    · rw [outr_step (by omega)]
      obtain ⟨g1, g2⟩ := Kr.innr (by omega : 17 ≤ k + 1) h2 _ m (Nat.le_refl _) h
      exact ih _ (by omega) (by omega) (g1.down g2)
/-- None are of more than 256 bits: from there on, or from further off, is one. -/
theorem outr_off {m : Nat → Nat} {n : Nat} (hn : 16 ≤ n) : ∀ k, (∀ i, n < i → i ≤ n + k → m i = 0) → outr (n + k) m = outr n m
  | 0, _ => rfl
  | k + 1, h => by
    rw [outr_step (by omega), innr_done (h _ (by omega) (by omega))]
    exact outr_off hn k fun i h1 h2 => h i h1 (by omega)

/-- At the end one goes. -/
def fin (m : Nat → Nat) : Nat → Nat := upd m (great m 16) (m (great m 16) - 1)
theorem off_shift (f : Nat → Nat) : ∀ n, off f (n + 1) = f 0 + off (fun i => f (i + 1)) n
  | 0 => by show 0 + f 0 = f 0 + 0; omega
  | n + 1 => by
    show off f (n + 1) + f (n + 1) = f 0 + (off (fun i => f (i + 1)) n + f (n + 1))
    rw [off_shift f n]
    omega
theorem off_ext (f : Nat → Nat) (n : Nat) : ∀ k, (∀ i, n ≤ i → f i = 0) → off f (n + k) = off f n
  | 0, _ => rfl
  | k + 1, h => by
    show off f (n + k) + f (n + k) = _
    rw [off_ext f n k h, h _ (by omega)]
    rfl
theorem fst_ks (m : Nat → Nat) (h : m 0 = 0) : ∀ n, fst (fun i => m (i + 1)) n + m (n + 1) = ks m (n + 1)
  | 0 => by
    show 0 + m 1 = 2 * m 0 + m 1
    omega
  | n + 1 => by
    show 2 * (fst (fun i => m (i + 1)) n + m (n + 1)) + m (n + 2) = 2 * ks m (n + 1) + m (n + 2)
    rw [fst_ks m h n]
theorem Kr.last {m : Nat → Nat} {T : Nat} : ∀ n, Kr m n T → Kr m (great m n) T
  | 0, h => h
  | n + 1, h => by
    by_cases e : m (n + 1) = 0
    · have hg : great m (n + 1) = great m n := if_pos e
      rw [hg]
      exact Kr.last n (h.down e)
    · have hg : great m (n + 1) = n + 1 := if_neg e
      rw [hg]
      exact h
/-- It is a right table. -/
theorem fin_right {m : Nat → Nat} {T : Nat} (h : Kr m 16 T) : off (fun i => fin m (i + 1)) 16 + 1 = T ∧ (∀ i, fin m (i + 1) < 256) ∧ ∀ n, n < 16 → fst (fun i => fin m (i + 1)) n + fin m (n + 1) < 2 ^ (n + 1) := by
  have hl := h.last
  have hle := great_le m 16
  have hgo := great_out m 16
  unfold fin
  have hpos : great m 16 ≠ 0 := by
    intro e
    rw [e] at hl
    have h1 := hl.fill
    have h2 : ks m 0 = m 0 := rfl
    have h3 := h.zero
    rw [Nat.pow_zero] at h1
    omega
  have hne := great_ne m 16 hpos
  generalize great m 16 = J at *
  obtain ⟨j, rfl⟩ : ∃ j, J = j + 1 := ⟨J - 1, by omega⟩
  have hev := hl.even
  have hs : off m 300 = off m 17 := off_ext m 17 283 fun i hi => h.out i (by omega)
  have hsum := h.sum
  have hfew := h.few
  have hz : upd m (j + 1) (m (j + 1) - 1) 0 = 0 := by rw [upd_ne _ _ (by omega)]; exact h.zero
  have hu := off_upd m (j + 1) (m (j + 1) - 1) 17 (by omega)
  have hsh : off (upd m (j + 1) (m (j + 1) - 1)) 17 = _ := off_shift (upd m (j + 1) (m (j + 1) - 1)) 16
  rw [hz] at hsh
  refine ⟨by omega, fun i => ?_, fun n hn => ?_⟩
  · by_cases e : i + 1 = j + 1
    · rw [e, upd_same]
      by_cases e2 : j + 1 < 300
      · have := off_at m (i := j + 1) (n := 300) e2
        omega
      · have := h.out (j + 1) (by omega)
        omega
    · rw [upd_ne _ _ e]
      by_cases e2 : i + 1 < 300
      · have := off_two m (i := i + 1) (j := j + 1) (n := 300) e2 (by omega) e
        omega
      · have := h.out (i + 1) (by omega)
        omega
  · rw [fst_ks _ hz]
    by_cases e : j + 1 ≤ n + 1
    · have k1 := ks_upd m (j + 1) (m (j + 1) - 1) (n + 1) e
      have k2 := ks_up m (n + 1) (16 - (n + 1))
      rw [show n + 1 + (16 - (n + 1)) = 16 by omega, h.fill] at k2
      have k3 : 2 ^ (16 - (n + 1)) * 2 ^ (n + 1) = 2 ^ 16 := by rw [← Nat.pow_add]; congr 1; omega
      rw [← k3] at k2
      have k4 := Nat.le_of_mul_le_mul_left k2 (Nat.two_pow_pos _)
      have k5 := Nat.two_pow_pos (n + 1 - (j + 1))
      have d1 : m (j + 1) * 2 ^ (n + 1 - (j + 1)) = (m (j + 1) - 1) * 2 ^ (n + 1 - (j + 1)) + 2 ^ (n + 1 - (j + 1)) := by
        obtain ⟨q, hq⟩ : ∃ q, m (j + 1) = q + 1 := ⟨m (j + 1) - 1, by omega⟩
        rw [hq, Nat.add_sub_cancel, Nat.add_mul, Nat.one_mul]
      omega
    · rw [ks_congr (m' := m) fun i hi => upd_ne _ _ (by omega)]
      obtain ⟨k, hk⟩ : ∃ k, j = n + 1 + k := ⟨j - (n + 1), by omega⟩
      have k2 := ks_up m (n + 1) k
      rw [← hk] at k2
      have k3 := hl.fill
      have k4 : ks m (j + 1) = 2 * ks m j + m (j + 1) := rfl
      have k6 : 2 ^ (j + 1) = 2 * (2 ^ k * 2 ^ (n + 1)) := by rw [← Nat.pow_add, Nat.pow_succ, Nat.mul_comm, show k + (n + 1) = j by omega]
      have k7 : 2 ^ k * ks m (n + 1) < 2 ^ k * 2 ^ (n + 1) := by omega
      exact Nat.lt_of_mul_lt_mul_left k7
end Go.Proofs.Ytlfnjdgfllhepaa
