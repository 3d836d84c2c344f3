/- The codes take no more bits than any others that there is room for: plain, no program in it. -/
import Derived.Test.YtlfnjdgfllhepaaBOrdQ
namespace Go.Proofs.Ytlfnjdgfllhepaa

theorem argmax (l : Nat → Nat) (P : Nat → Prop) : ∀ n, (∃ i, i < n ∧ P i) → ∃ c, c < n ∧ P c ∧ ∀ i, i < n → P i → l i ≤ l c
  | 0, ⟨i, h, _⟩ => by omega
  | n + 1, ⟨i, h, hi⟩ => by
    by_cases hex : ∃ j, j < n ∧ P j
    · obtain ⟨c, c1, c2, c3⟩ := argmax l P n hex
      by_cases hn : P n ∧ l c < l n
      · refine ⟨n, by omega, hn.1, fun j hj hp => ?_⟩
        by_cases e : j = n
        · rw [e]; exact Nat.le_refl _
        · have := c3 j (by omega) hp
          omega
      · refine ⟨c, by omega, c2, fun j hj hp => ?_⟩
        by_cases e : j = n
        · subst e
          by_cases q : l c < l j
          · exact absurd ⟨hp, q⟩ hn
          · omega
        · exact c3 j (by omega) hp
    · have e : i = n := by
        by_cases e : i = n
        · exact e
        · exact absurd ⟨i, by omega, hi⟩ hex
      subst e
      refine ⟨i, by omega, hi, fun j hj hp => ?_⟩
      by_cases e : j = i
      · rw [e]; exact Nat.le_refl _
      · exact absurd ⟨j, by omega, hp⟩ hex
theorem off_dvd {f : Nat → Nat} {u : Nat} : ∀ {n : Nat}, (∀ i, i < n → u ∣ f i) → u ∣ off f n
  | 0, _ => ⟨0, rfl⟩
  | n + 1, h => Nat.dvd_add (off_dvd fun i hi => h i (Nat.lt_succ_of_lt hi)) (h n (Nat.lt_succ_self n))
/-- What groups cost by lengths, and what these fill. -/
def wt (W l : Nat → Nat) : Nat := off (fun c => W c * l c) 257
def kr (D : Nat) (W l : Nat → Nat) : Nat := off (fun c => if W c = 0 then 0 else 2 ^ (D - l c)) 257
def swp (l : Nat → Nat) (p q : Nat) : Nat → Nat := upd (upd l p (l q)) q (l p)
theorem swp_at (l : Nat → Nat) (p q c : Nat) : swp l p q c = if c = q then l p else if c = p then l q else l c := by
  unfold swp upd
  rfl
theorem mul_swap {a b x y : Nat} (h1 : a ≤ b) (h2 : x ≤ y) : a * y + b * x ≤ a * x + b * y := by
  obtain ⟨d, rfl⟩ : ∃ d, b = a + d := ⟨b - a, by omega⟩
  obtain ⟨e, rfl⟩ : ∃ e, y = x + e := ⟨y - x, by omega⟩
  rw [Nat.mul_add, Nat.add_mul, Nat.add_mul, Nat.mul_add, Nat.mul_add]
  omega
theorem off_two_upd (f g : Nat → Nat) {p q : Nat} (hp : p < 257) (hq : q < 257) (hpq : p ≠ q) (h : ∀ c, c < 257 → c ≠ p → c ≠ q → g c = f c) : off g 257 + f p + f q = off f 257 + g p + g q := by
  have h1 := off_upd f p (g p) 257 hp
  have h2 := off_upd (upd f p (g p)) q (g q) 257 hq
  rw [upd_ne _ _ (Ne.symm hpq)] at h2
  have h3 : off (upd (upd f p (g p)) q (g q)) 257 = off g 257 := off_congr fun c hc => by
    by_cases e1 : c = q
    · rw [e1, upd_same]
    · rw [upd_ne _ _ e1]
      by_cases e2 : c = p
      · rw [e2, upd_same]
      · rw [upd_ne _ _ e2, h c hc e2 e1]
  omega
theorem swp_wt {W l : Nat → Nat} {p q : Nat} (hp : p < 257) (hq : q < 257) (hW : W p ≤ W q) (hl : l p ≤ l q) : wt W (swp l p q) ≤ wt W l := by
  by_cases e : p = q
  · subst e
    have : swp l p p = l := by
      funext c
      rw [swp_at]
      by_cases e : c = p
      · rw [if_pos e, e]
      · rw [if_neg e, if_neg e]
    rw [this]
    exact Nat.le_refl _
  · have h := off_two_upd (fun c => W c * l c) (fun c => W c * swp l p q c) hp hq e fun c _ h1 h2 => by rw [swp_at, if_neg h2, if_neg h1]
    have e1 : swp l p q p = l q := by rw [swp_at, if_neg e, if_pos rfl]
    have e2 : swp l p q q = l p := by rw [swp_at, if_pos rfl]
    simp only [e1, e2] at h
    have := mul_swap hW hl
    unfold wt
    omega
theorem swp_kr {D : Nat} {W l : Nat → Nat} {p q : Nat} (hp : p < 257) (hq : q < 257) (hW : W p ≠ 0) (hW' : W q ≠ 0) : kr D W (swp l p q) = kr D W l := by
  by_cases e : p = q
  · subst e
    have : swp l p p = l := by
      funext c
      rw [swp_at]
      by_cases e : c = p
      · rw [if_pos e, e]
      · rw [if_neg e, if_neg e]
    rw [this]
  · have h := off_two_upd (fun c => if W c = 0 then 0 else 2 ^ (D - l c)) (fun c => if W c = 0 then 0 else 2 ^ (D - swp l p q c)) hp hq e fun c _ h1 h2 => by rw [swp_at, if_neg h2, if_neg h1]
    have e1 : swp l p q p = l q := by rw [swp_at, if_neg e, if_pos rfl]
    have e2 : swp l p q q = l p := by rw [swp_at, if_pos rfl]
    simp only [e1, e2, if_neg hW, if_neg hW'] at h
    unfold kr
    omega
/-- Lengths for all are lengths with two joined. -/
theorem exch {D : Nat} {W l : Nat → Nat} {a b : Nat} (ha : a < 257) (hb : b < 257) (hba : b ≠ a) (hWa : W a ≠ 0) (hWb : W b ≠ 0) (hla : ∀ c, c < 257 → W c ≠ 0 → W a ≤ W c) (hlb : ∀ c, c < 257 → W c ≠ 0 → c ≠ a → W b ≤ W c)
    (hD : ∀ c, c < 257 → W c ≠ 0 → l c ≤ D) (hk : kr D W l ≤ 2 ^ D) (W' : Nat → Nat) (hW' : ∀ c, W' c = if c = b then 0 else if c = a then W a + W b else W c) :
    ∃ l', (∀ c, c < 257 → W' c ≠ 0 → l' c ≤ D) ∧ kr D W' l' ≤ 2 ^ D ∧ wt W' l' + (W a + W b) ≤ wt W l := by
  obtain ⟨c0, p1, p2, p3⟩ := argmax l (fun c => W c ≠ 0) 257 ⟨a, ha, hWa⟩
  have l1 : ∀ c, swp l a c0 c = if c = c0 then l a else if c = a then l c0 else l c := swp_at l a c0
  have w1 := swp_wt (W := W) ha p1 (hla c0 p1 p2) (p3 a ha hWa)
  have k1 := swp_kr (D := D) (l := l) ha p1 hWa p2
  have m1 : ∀ c, c < 257 → W c ≠ 0 → swp l a c0 c ≤ swp l a c0 a ∧ swp l a c0 c ≤ D := fun c hc hw => by
    have q1 := p3 c hc hw
    have q2 := p3 a ha hWa
    have q3 := hD c0 p1 p2
    rw [l1, l1]
    by_cases e1 : a = c0
    · rw [if_pos e1]
      by_cases e2 : c = c0
      · rw [if_pos e2]; omega
      · rw [if_neg e2, if_neg (fun e => e2 (e.trans e1))]
        rw [← e1] at q1 q3
        omega
    · rw [if_neg e1, if_pos rfl]
      by_cases e2 : c = c0
      · rw [if_pos e2]; omega
      · rw [if_neg e2]
        by_cases e3 : c = a
        · rw [if_pos e3]; omega
        · rw [if_neg e3]; omega
  generalize swp l a c0 = g at *
  obtain ⟨c1, r1, r2, r3⟩ := argmax g (fun c => W c ≠ 0 ∧ c ≠ a) 257 ⟨b, hb, hWb, hba⟩
  have l2 : ∀ c, swp g b c1 c = if c = c1 then g b else if c = b then g c1 else g c := swp_at g b c1
  have w2 := swp_wt (W := W) hb r1 (hlb c1 r1 r2.1 r2.2) (r3 b hb ⟨hWb, hba⟩)
  have k2 := swp_kr (D := D) (l := g) hb r1 hWb r2.1
  have m2 : ∀ c, c < 257 → W c ≠ 0 → swp g b c1 c ≤ D ∧ (c ≠ a → swp g b c1 c ≤ swp g b c1 b) ∧ swp g b c1 c ≤ swp g b c1 a := fun c hc hw => by
    have q1 := m1 c hc hw
    have q2 := m1 b hb hWb
    have q3 := m1 c1 r1 r2.1
    have q4 := r3 b hb ⟨hWb, hba⟩
    have q5 : c ≠ a → g c ≤ g c1 := fun h => r3 c hc ⟨hw, h⟩
    have ea : swp g b c1 a = g a := by rw [l2, if_neg (Ne.symm r2.2), if_neg (Ne.symm hba)]
    have eb : swp g b c1 b = g c1 := by
      rw [l2]
      by_cases e : b = c1
      · rw [if_pos e, e]
      · rw [if_neg e, if_pos rfl]
    rw [ea, eb, l2]
    by_cases e1 : c = c1
    · rw [if_pos e1]
      exact ⟨q2.2, fun _ => q4, q2.1⟩
    · rw [if_neg e1]
      by_cases e2 : c = b
      · rw [if_pos e2]
        exact ⟨q3.2, fun _ => Nat.le_refl _, q3.1⟩
      · rw [if_neg e2]
        exact ⟨q1.2, q5, q1.1⟩
  generalize swp g b c1 = h at *
  -- the two longest are those of a and b
  have kk : kr D W h ≤ 2 ^ D := by omega
  have hM := (m2 b hb hWb).2.2
  have hMD := (m2 b hb hWb).1
  have u1 := Nat.two_pow_pos (D - h a)
  have kD : 2 ^ D = 2 ^ (D - h b) * 2 ^ h b := by rw [← Nat.pow_add]; congr 1; omega
  -- without a
  have ra := off_upd (fun c => if W c = 0 then 0 else 2 ^ (D - h c)) a 0 257 ha
  simp only [if_neg hWa] at ra
  have dv : 2 ^ (D - h b) ∣ off (upd (fun c => if W c = 0 then 0 else 2 ^ (D - h c)) a 0) 257 := off_dvd fun c hc => by
    by_cases e : c = a
    · rw [e, upd_same]; exact ⟨0, rfl⟩
    · rw [upd_ne _ _ e]
      by_cases e2 : W c = 0
      · simp only [if_pos e2]; exact ⟨0, rfl⟩
      · simp only [if_neg e2]
        have := (m2 c hc e2).2.1 e
        exact Nat.pow_dvd_pow 2 (by omega)
  obtain ⟨r, hr⟩ := dv
  have rlt : 2 ^ (D - h b) * r + 2 ^ (D - h a) ≤ 2 ^ D := by
    unfold kr at kk
    omega
  have rle : 2 ^ (D - h b) * (r + 1) ≤ 2 ^ D := by
    rw [kD] at rlt ⊢
    have : r < 2 ^ h b := Nat.lt_of_mul_lt_mul_left (a := 2 ^ (D - h b)) (by omega)
    exact Nat.mul_le_mul_left _ this
  have hpos : 1 ≤ h b := by
    apply Nat.pos_of_ne_zero
    intro e0
    have h1 := off_at (upd (fun c => if W c = 0 then 0 else 2 ^ (D - h c)) a 0) hb
    rw [upd_ne _ _ hba] at h1
    simp only [if_neg hWb] at h1
    rw [e0] at h1
    rw [hr, e0] at h1
    rw [e0] at rlt
    simp only [Nat.sub_zero] at h1 rlt
    omega
  refine ⟨upd h a (h b - 1), fun c hc hw => ?_, ?_, ?_⟩
  · rw [hW'] at hw
    have hcb : c ≠ b := fun e => by rw [if_pos e] at hw; exact hw rfl
    rw [if_neg hcb] at hw
    by_cases e : c = a
    · rw [e, upd_same]; omega
    · rw [upd_ne _ _ e]
      rw [if_neg e] at hw
      exact (m2 c hc hw).1
  · have q := off_two_upd (fun c => if W c = 0 then 0 else 2 ^ (D - h c)) (fun c => if W' c = 0 then 0 else 2 ^ (D - upd h a (h b - 1) c)) ha hb (Ne.symm hba) fun c _ h1 h2 => by
      show (if W' c = 0 then 0 else 2 ^ (D - upd h a (h b - 1) c)) = _
      rw [hW', if_neg h2, if_neg h1, upd_ne _ _ h1]
    have ea : W' a = W a + W b := by rw [hW', if_neg (Ne.symm hba), if_pos rfl]
    have eb : W' b = 0 := by rw [hW', if_pos rfl]
    have e2 : 2 ^ (D - (h b - 1)) = 2 * 2 ^ (D - h b) := by rw [show D - (h b - 1) = (D - h b) + 1 by omega, Nat.pow_succ, Nat.mul_comm]
    simp only [if_neg hWa, if_neg hWb, ea, eb, upd_same, if_neg (show ¬ W a + W b = 0 by omega), if_true, e2] at q
    unfold kr at *
    rw [Nat.mul_add, Nat.mul_one] at rle
    omega
  · have q := off_two_upd (fun c => W c * h c) (fun c => W' c * upd h a (h b - 1) c) ha hb (Ne.symm hba) fun c _ h1 h2 => by
      show W' c * upd h a (h b - 1) c = _
      rw [hW', if_neg h2, if_neg h1, upd_ne _ _ h1]
    have ea : W' a = W a + W b := by rw [hW', if_neg (Ne.symm hba), if_pos rfl]
    have eb : W' b = 0 := by rw [hW', if_pos rfl]
    simp only [ea, eb, upd_same, Nat.zero_mul] at q
    obtain ⟨k, hkk⟩ : ∃ k, h b = k + 1 := ⟨h b - 1, by omega⟩
    have e3 : W a * h b ≤ W a * h a := Nat.mul_le_mul_left _ hM
    have hk1 : h b - 1 = k := by omega
    rw [hk1]
    rw [hk1] at q
    rw [hkk] at q e3
    simp only [Nat.add_mul, Nat.mul_add, Nat.mul_one] at q e3
    unfold wt at *
    omega

/-- All that lies in a group is its weight. -/
structure Tot (F : Nat → Nat) (s : HS) : Prop where
  fit : Fit F s
  tot : ∀ c, s.W c ≠ 0 → off (fun x => if s.own x = c then F x else 0) 257 = s.W c
def cst (F : Nat → Nat) (s : HS) : Nat := off (fun x => F x * s.L x) 257
theorem Tot.start {F : Nat → Nat} (h0 : ∀ x, 257 ≤ x → F x = 0) : Tot F (hstart F) := by
  refine ⟨Fit.start h0, fun c hc => ?_⟩
  have hF : F c ≠ 0 := hc
  have hlt : c < 257 := by
    by_cases h : c < 257
    · exact h
    · exact absurd (h0 c (by omega)) hF
  rw [off_single hlt fun x _ hne => ?_]
  · show (if (if F c = 0 then 999 else c) = c then F c else 0) = F c
    rw [if_neg hF, if_pos rfl]
  · show (if (if F x = 0 then 999 else x) = c then F x else 0) = 0
    by_cases e : F x = 0
    · rw [if_pos e, e]; split <;> rfl
    · rw [if_neg e, if_neg hne]
theorem Tot.join {F : Nat → Nat} {s : HS} {a b : Nat} (h : Tot F s) (hp : pick s = some (a, b)) : Tot F (s.join a b) ∧ cst F (s.join a b) = cst F s + (s.W a + s.W b) := by
  obtain ⟨ha, hb, hWa, hWb, hba, _, _⟩ := pick_two hp
  have hA := h.tot a hWa
  have hB := h.tot b hWb
  refine ⟨⟨h.fit.join hp, fun c hc => ?_⟩, ?_⟩
  · rw [join_W s hba] at hc ⊢
    have hcb : c ≠ b := fun e => by rw [if_pos e] at hc; exact hc rfl
    rw [if_neg hcb] at hc ⊢
    by_cases e : c = a
    · rw [if_pos e, ← hA, ← hB, ← off_add]
      refine off_congr fun x _ => ?_
      show (if (if s.own x = b then a else s.own x) = c then F x else 0) = (if s.own x = a then F x else 0) + (if s.own x = b then F x else 0)
      by_cases q : s.own x = b
      · rw [if_pos q, if_pos e.symm, if_pos q, if_neg (fun e2 => hba (q.symm.trans e2)), Nat.zero_add]
      · rw [if_neg q, if_neg q, e, Nat.add_zero]
    · rw [if_neg e] at hc ⊢
      rw [← h.tot c hc]
      refine off_congr fun x _ => ?_
      show (if (if s.own x = b then a else s.own x) = c then F x else 0) = _
      by_cases q : s.own x = b
      · rw [if_pos q, if_neg (Ne.symm e), if_neg (fun e2 => hcb (e2.symm.trans q))]
      · rw [if_neg q]
  · unfold cst
    rw [← hA, ← hB, ← off_add, ← off_add]
    refine off_congr fun x _ => ?_
    show F x * (if s.own x = a ∨ s.own x = b then s.L x + 1 else s.L x) = F x * s.L x + ((if s.own x = a then F x else 0) + (if s.own x = b then F x else 0))
    by_cases q1 : s.own x = a
    · rw [if_pos (.inl q1), if_pos q1, if_neg (fun e => hba (e.symm.trans q1)), Nat.mul_add, Nat.mul_one, Nat.add_zero]
    · by_cases q2 : s.own x = b
      · rw [if_pos (.inr q2), if_neg q1, if_pos q2, Nat.mul_add, Nat.mul_one, Nat.zero_add]
      · rw [if_neg (fun h => h.elim q1 q2), if_neg q1, if_neg q2, Nat.add_zero]
theorem best_of {F : Nat → Nat} (D m : Nat) : ∀ (s : HS), Tot F s → ∀ l, (∀ c, c < 257 → s.W c ≠ 0 → l c ≤ D) → kr D s.W l ≤ 2 ^ D → cst F (hrun m s) ≤ cst F s + wt s.W l := by
  induction m with
  | zero =>
    intro s _ l _ _
    rw [show hrun 0 s = s from rfl]
    exact Nat.le_add_right _ _
  | succ m ih =>
    intro s h l hD hk
    cases e : pick s with
    | none =>
      rw [hrun_done e]
      exact Nat.le_add_right _ _
    | some ab =>
      obtain ⟨a, b⟩ := ab
      obtain ⟨ha, hb, hWa, hWb, hba, _, _⟩ := pick_two e
      obtain ⟨⟨_, _, _, a4⟩, ⟨_, _, _, b4⟩⟩ := pick_some e
      rw [hrun_step e]
      obtain ⟨hj, hc⟩ := h.join e
      obtain ⟨l', d1, d2, d3⟩ := exch (D := D) (l := l) ha hb hba hWa hWb (fun c hc hw => by
          have := a4 c hc hw (by omega)
          omega) (fun c hc hw hne => by
          have := b4 c hc hw hne
          omega) hD hk (s.join a b).W (join_W s hba)
      have := ih _ hj l' d1 d2
      omega
theorem off_257 (g : Nat → Nat) : off g 257 = off g 256 + g 256 := rfl
/-- Codes of one length for all would take as many bits, or more. -/
theorem lens_best (f : Nat → Nat) (k : Nat) (hk : k ≤ 20) (hn : off (fun x => if f x = 0 then 0 else 1) 256 + 1 ≤ 2 ^ k) : off (fun x => f x * lens f x) 256 ≤ off f 256 * k + k := by
  have h := best_of 20 257 _ (Tot.start (full_out f)) (fun _ => k) (fun _ _ _ => hk) ?_
  · have e0 : cst (full f) (hstart (full f)) = 0 := off_zero fun x _ => Nat.mul_zero _
    have e1 : wt (hstart (full f)).W (fun _ => k) = off f 256 * k + k := by
      show off (fun c => full f c * k) 257 = _
      have e2 : off (fun c => full f c * k) 257 = k * off (full f) 257 := by
        rw [← off_mul]
        exact off_congr fun x _ => Nat.mul_comm _ _
      have e3 : off (full f) 257 = off f 256 + 1 := by
        show off (full f) 256 + 1 = _
        rw [off_congr (g := f) fun i hi => by unfold full; rw [if_neg (by omega), if_pos hi]]
      rw [e2, e3, Nat.mul_add, Nat.mul_one, Nat.mul_comm]
    have e4 : cst (full f) (hrun 257 (hstart (full f))) = off (fun x => f x * lens f x) 256 + lens f 256 := by
      show off (fun x => full f x * lens f x) 256 + 1 * lens f 256 = _
      rw [off_congr (g := fun x => f x * lens f x) fun i hi => by
        show full f i * _ = _
        unfold full
        rw [if_neg (by omega), if_pos hi], Nat.one_mul]
    omega
  · show off (fun c => if full f c = 0 then 0 else 2 ^ (20 - k)) 257 ≤ 2 ^ 20
    have e1 : off (fun c => if full f c = 0 then 0 else 2 ^ (20 - k)) 257 = 2 ^ (20 - k) * (off (fun x => if f x = 0 then 0 else 1) 256 + 1) := by
      rw [off_257, if_neg (show full f 256 ≠ 0 from Nat.one_ne_zero), Nat.mul_add, Nat.mul_one, ← off_mul]
      refine congrArg (· + 2 ^ (20 - k)) (off_congr fun x hx => ?_)
      show (if full f x = 0 then 0 else 2 ^ (20 - k)) = 2 ^ (20 - k) * (if f x = 0 then 0 else 1)
      have : full f x = f x := by unfold full; rw [if_neg (by omega), if_pos hx]
      rw [this]
      split
      · rw [Nat.mul_zero]
      · rw [Nat.mul_one]
    rw [e1, show (2 : Nat) ^ 20 = 2 ^ (20 - k) * 2 ^ k by rw [← Nat.pow_add]; congr 1; omega]
    exact Nat.mul_le_mul_left _ hn
end Go.Proofs.Ytlfnjdgfllhepaa
