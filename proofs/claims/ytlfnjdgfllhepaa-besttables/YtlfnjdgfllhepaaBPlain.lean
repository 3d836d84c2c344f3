/- How codes are made of how often symbols come: groups that are joined, and what holds of their lengths; plain functions, no program in it. -/
import Derived.Test.YtlfnjdgfllhepaaHPlain
namespace Go.Proofs.Ytlfnjdgfllhepaa

/-- One place of a row is set. -/
def upd (f : Nat → Nat) (i v : Nat) : Nat → Nat := fun j => if j = i then v else f j
theorem upd_same (f : Nat → Nat) (i v : Nat) : upd f i v i = v := if_pos rfl
theorem upd_ne (f : Nat → Nat) {i j : Nat} (v : Nat) (h : j ≠ i) : upd f i v j = f j := if_neg h

theorem off_congr {f g : Nat → Nat} : ∀ {n : Nat}, (∀ i, i < n → f i = g i) → off f n = off g n
  | 0, _ => rfl
  | n + 1, h => by
    show off f n + f n = off g n + g n
    rw [off_congr fun i hi => h i (Nat.lt_succ_of_lt hi), h n (Nat.lt_succ_self n)]
theorem off_mono {f g : Nat → Nat} : ∀ {n : Nat}, (∀ i, i < n → f i ≤ g i) → off f n ≤ off g n
  | 0, _ => Nat.le_refl _
  | n + 1, h => Nat.add_le_add (off_mono fun i hi => h i (Nat.lt_succ_of_lt hi)) (h n (Nat.lt_succ_self n))
theorem off_upd (f : Nat → Nat) (i v : Nat) : ∀ n, i < n → off (upd f i v) n + f i = off f n + v
  | 0, h => by omega
  | n + 1, h => by
    show off (upd f i v) n + upd f i v n + f i = off f n + f n + v
    by_cases e : i = n
    · subst e
      rw [upd_same, off_congr (g := f) fun j hj => upd_ne f v (by omega)]
      omega
    · have := off_upd f i v n (by omega)
      rw [upd_ne f v (Ne.symm e)]
      omega
theorem off_at (f : Nat → Nat) {i : Nat} : ∀ {n : Nat}, i < n → f i ≤ off f n
  | 0, h => by omega
  | n + 1, h => by
    show f i ≤ off f n + f n
    by_cases e : i = n
    · subst e; omega
    · have := off_at f (i := i) (n := n) (by omega); omega
theorem off_two (f : Nat → Nat) {i j n : Nat} (hi : i < n) (hj : j < n) (h : i ≠ j) : f i + f j ≤ off f n := by
  have h1 := off_upd f i 0 n hi
  have h2 := off_at (upd f i 0) hj
  rw [upd_ne f 0 (Ne.symm h)] at h2
  omega
theorem off_add (f g : Nat → Nat) : ∀ n, off (fun i => f i + g i) n = off f n + off g n
  | 0 => rfl
  | n + 1 => by
    show off (fun i => f i + g i) n + (f n + g n) = off f n + f n + (off g n + g n)
    rw [off_add f g n]
    omega
theorem off_mul (f : Nat → Nat) (k : Nat) : ∀ n, off (fun i => k * f i) n = k * off f n
  | 0 => rfl
  | n + 1 => by
    show off (fun i => k * f i) n + k * f n = k * (off f n + f n)
    rw [off_mul f k n, Nat.mul_add]
theorem off_one : ∀ n, off (fun _ => 1) n = n
  | 0 => rfl
  | n + 1 => congrArg (· + 1) (off_one n)
theorem off_zero {f : Nat → Nat} : ∀ {n : Nat}, (∀ i, i < n → f i = 0) → off f n = 0
  | 0, _ => rfl
  | n + 1, h => by
    show off f n + f n = 0
    rw [off_zero fun i hi => h i (Nat.lt_succ_of_lt hi), h n (Nat.lt_succ_self n)]
theorem off_zero' {f : Nat → Nat} {n : Nat} (h : off f n = 0) (i : Nat) (hi : i < n) : f i = 0 := by
  have := off_at f hi
  omega
theorem off_single {f : Nat → Nat} {a n : Nat} (ha : a < n) (h : ∀ i, i < n → i ≠ a → f i = 0) : off f n = f a := by
  have h1 := off_upd f a 0 n ha
  have h2 : off (upd f a 0) n = 0 := off_zero fun i hi => by
    by_cases e : i = a
    · subst e; exact upd_same _ _ _
    · rw [upd_ne _ _ e]; exact h i hi e
  omega

/-- The least of all that aren't 0, but one; of several the last. -/
def lst (W : Nat → Nat) (b : Nat) : Nat → Option Nat
  | 0 => none
  | k + 1 => if W k = 0 ∨ k = b then lst W b k else match lst W b k with
    | none => some k
    | some f => if W k ≤ W f then some k else some f
theorem lst_skip {W : Nat → Nat} {b k : Nat} (h : W k = 0 ∨ k = b) : lst W b (k + 1) = lst W b k := if_pos h
theorem lst_first {W : Nat → Nat} {b k : Nat} (h : ¬ (W k = 0 ∨ k = b)) (hn : lst W b k = none) : lst W b (k + 1) = some k := by
  show (if W k = 0 ∨ k = b then _ else _) = _
  rw [if_neg h, hn]
theorem lst_take {W : Nat → Nat} {b k f : Nat} (h : ¬ (W k = 0 ∨ k = b)) (hn : lst W b k = some f) (hle : W k ≤ W f) : lst W b (k + 1) = some k := by
  show (if W k = 0 ∨ k = b then _ else _) = _
  rw [if_neg h, hn]
  exact if_pos hle
theorem lst_keep {W : Nat → Nat} {b k f : Nat} (h : ¬ (W k = 0 ∨ k = b)) (hn : lst W b k = some f) (hle : ¬ W k ≤ W f) : lst W b (k + 1) = some f := by
  show (if W k = 0 ∨ k = b then _ else _) = _
  rw [if_neg h, hn]
  exact if_neg hle
/-- What the least is. -/
def Lst (W : Nat → Nat) (b k a : Nat) : Prop := a < k ∧ W a ≠ 0 ∧ a ≠ b ∧ ∀ i, i < k → W i ≠ 0 → i ≠ b → W a < W i ∨ (W a = W i ∧ i ≤ a)
theorem lst_spec (W : Nat → Nat) (b : Nat) : ∀ k, match lst W b k with
    | none => ∀ i, i < k → W i = 0 ∨ i = b
    | some a => Lst W b k a
  | 0 => fun i hi => by omega
  | k + 1 => by
    have ih := lst_spec W b k
    by_cases h : W k = 0 ∨ k = b
    · rw [lst_skip h]
      cases e : lst W b k with
      | none =>
        rw [e] at ih
        intro i hi
        by_cases e1 : i = k
        · subst e1; exact h
        · exact ih i (by omega)
      | some a =>
        rw [e] at ih
        obtain ⟨h1, h2, h3, h4⟩ := ih
        refine ⟨by omega, h2, h3, fun i hi hw hb => ?_⟩
        by_cases e1 : i = k
        · subst e1; rcases h with h | h <;> contradiction
        · exact h4 i (by omega) hw hb
    · have hk : W k ≠ 0 ∧ k ≠ b := ⟨fun e => h (.inl e), fun e => h (.inr e)⟩
      cases e : lst W b k with
      | none =>
        rw [e] at ih
        rw [lst_first h e]
        refine ⟨by omega, hk.1, hk.2, fun i hi hw hb => ?_⟩
        by_cases e1 : i = k
        · subst e1; exact .inr ⟨rfl, Nat.le_refl _⟩
        · rcases ih i (by omega) with h | h <;> contradiction
      | some a =>
        rw [e] at ih
        obtain ⟨h1, h2, h3, h4⟩ := ih
        by_cases hle : W k ≤ W a
        · rw [lst_take h e hle]
          refine ⟨by omega, hk.1, hk.2, fun i hi hw hb => ?_⟩
          by_cases e1 : i = k
          · subst e1; exact .inr ⟨rfl, Nat.le_refl _⟩
          · have := h4 i (by omega) hw hb
            omega
        · rw [lst_keep h e hle]
          refine ⟨by omega, h2, h3, fun i hi hw hb => ?_⟩
          by_cases e1 : i = k
          · subst e1; omega
          · exact h4 i (by omega) hw hb
theorem lst_some {W : Nat → Nat} {b k a : Nat} (h : lst W b k = some a) : Lst W b k a := by
  have := lst_spec W b k
  rwa [h] at this
theorem lst_none {W : Nat → Nat} {b k : Nat} (h : lst W b k = none) : ∀ i, i < k → W i = 0 ∨ i = b := by
  have := lst_spec W b k
  rwa [h] at this
theorem Lst.unique {W : Nat → Nat} {b k a a' : Nat} (h : Lst W b k a) (h' : Lst W b k a') : a = a' := by
  obtain ⟨h1, h2, h3, h4⟩ := h
  obtain ⟨g1, g2, g3, g4⟩ := h'
  have := h4 a' g1 g2 g3
  have := g4 a h1 h2 h3
  omega
theorem Lst.eq {W : Nat → Nat} {b k a : Nat} (h : Lst W b k a) : lst W b k = some a := by
  cases e : lst W b k with
  | none =>
    obtain ⟨h1, h2, h3, _⟩ := h
    rcases lst_none e a h1 with h | h <;> contradiction
  | some a' => rw [(lst_some e).unique h]
theorem lst_eq_none {W : Nat → Nat} {b k : Nat} (h : ∀ i, i < k → W i = 0 ∨ i = b) : lst W b k = none := by
  cases e : lst W b k with
  | none => rfl
  | some a =>
    obtain ⟨h1, h2, h3, _⟩ := lst_some e
    rcases h a h1 with h | h <;> contradiction

/-- Groups: how often each comes, at its first symbol; whose group a symbol is in; how long its code is. -/
structure HS where
  W : Nat → Nat
  own : Nat → Nat
  L : Nat → Nat
def HS.join (s : HS) (a b : Nat) : HS := ⟨upd (upd s.W a (s.W a + s.W b)) b 0, fun x => if s.own x = b then a else s.own x, fun x => if s.own x = a ∨ s.own x = b then s.L x + 1 else s.L x⟩
def pick (s : HS) : Option (Nat × Nat) := match lst s.W 300 257 with
  | none => none
  | some a => match lst s.W a 257 with
    | none => none
    | some b => some (a, b)
def hrun : Nat → HS → HS
  | 0, s => s
  | k + 1, s => match pick s with
    | none => s
    | some (a, b) => hrun k (s.join a b)
theorem hrun_done {s : HS} (h : pick s = none) : ∀ k, hrun k s = s
  | 0 => rfl
  | k + 1 => by unfold hrun; rw [h]
theorem hrun_step {s : HS} {a b k : Nat} (h : pick s = some (a, b)) : hrun (k + 1) s = hrun k (s.join a b) := by
  show (match pick s with | none => s | some (a, b) => hrun k (s.join a b)) = _
  rw [h]
theorem pick_some {s : HS} {a b : Nat} (h : pick s = some (a, b)) : Lst s.W 300 257 a ∧ Lst s.W a 257 b := by
  unfold pick at h
  cases e : lst s.W 300 257 with
  | none => rw [e] at h; cases h
  | some a' =>
    rw [e] at h
    simp only [] at h
    cases e2 : lst s.W a' 257 with
    | none => rw [e2] at h; cases h
    | some b' =>
      rw [e2] at h
      simp only [Option.some.injEq, Prod.mk.injEq] at h
      obtain ⟨rfl, rfl⟩ := h
      exact ⟨lst_some e, lst_some e2⟩
theorem pick_eq {s : HS} {a b : Nat} (h1 : lst s.W 300 257 = some a) (h2 : lst s.W a 257 = some b) : pick s = some (a, b) := by
  unfold pick
  rw [h1]
  simp only []
  rw [h2]
theorem pick_none1 {s : HS} (h1 : lst s.W 300 257 = none) : pick s = none := by
  unfold pick
  rw [h1]
theorem pick_none2 {s : HS} {a : Nat} (h1 : lst s.W 300 257 = some a) (h2 : lst s.W a 257 = none) : pick s = none := by
  unfold pick
  rw [h1]
  simp only []
  rw [h2]

/-- How many groups there are. -/
def ngr (W : Nat → Nat) : Nat := off (fun i => if W i = 0 then 0 else 1) 257
/-- The numbers, and 1 for the symbol that is none. -/
def full (f : Nat → Nat) : Nat → Nat := fun x => if x = 256 then 1 else if x < 256 then f x else 0
def hstart (F : Nat → Nat) : HS := ⟨F, fun x => if F x = 0 then 999 else x, fun _ => 0⟩
def lens (f : Nat → Nat) : Nat → Nat := (hrun 257 (hstart (full f))).L

/-- What holds of groups all the time. -/
structure Fit (F : Nat → Nat) (s : HS) : Prop where
  own : ∀ x, F x ≠ 0 → s.own x < 257 ∧ s.W (s.own x) ≠ 0
  out : ∀ x, F x = 0 → s.own x = 999 ∧ s.L x = 0
  self : ∀ a, s.W a ≠ 0 → s.own a = a ∧ a < 257
  sum : off s.W 257 = off F 257
  few : ∀ x, s.L x + ngr s.W ≤ 257
  kraft : ∀ a, s.W a ≠ 0 → off (fun x => if s.own x = a then 2 ^ (256 - s.L x) else 0) 257 = 2 ^ 256

theorem ngr_join (W : Nat → Nat) (a b : Nat) (hb : b < 257) (hab : a ≠ b) (h1 : W a ≠ 0) (h2 : W b ≠ 0) : ngr (upd (upd W a (W a + W b)) b 0) + 1 = ngr W := by
  unfold ngr
  have e : ∀ i, (if upd (upd W a (W a + W b)) b 0 i = 0 then 0 else 1) = upd (fun i => if W i = 0 then 0 else 1) b 0 i := by
    intro i
    by_cases hi : i = b
    · subst hi; rw [upd_same, upd_same]; rfl
    · rw [upd_ne _ _ hi, upd_ne _ _ hi]
      by_cases hi' : i = a
      · subst hi'; rw [upd_same, if_neg (by omega), if_neg h1]
      · rw [upd_ne _ _ hi']
  rw [off_congr fun i _ => e i]
  have := off_upd (fun i => if W i = 0 then 0 else 1) b 0 257 hb
  rw [if_neg h2] at this
  omega
theorem ngr_pos {W : Nat → Nat} {a : Nat} (ha : a < 257) (h : W a ≠ 0) : 1 ≤ ngr W := by
  have := off_at (fun i => if W i = 0 then 0 else 1) ha
  rw [if_neg h] at this
  exact this
theorem ngr_two {W : Nat → Nat} {a b : Nat} (ha : a < 257) (hb : b < 257) (hab : a ≠ b) (h : W a ≠ 0) (h' : W b ≠ 0) : 2 ≤ ngr W := by
  have := off_two (fun i => if W i = 0 then 0 else 1) ha hb hab
  rw [if_neg h, if_neg h'] at this
  exact this
theorem pow_half (n : Nat) (h : n + 1 ≤ 256) : 2 * 2 ^ (256 - (n + 1)) = 2 ^ (256 - n) := by
  rw [show 256 - n = (256 - (n + 1)) + 1 by omega, Nat.pow_succ, Nat.mul_comm]

theorem Fit.join {F : Nat → Nat} {s : HS} (h : Fit F s) {a b : Nat} (hp : pick s = some (a, b)) : Fit F (s.join a b) := by
  obtain ⟨⟨a1, a2, _, _⟩, ⟨b1, b2, b3, _⟩⟩ := pick_some hp
  have hng := ngr_join s.W a b b1 (Ne.symm b3) a2 b2
  have hn2 := ngr_two a1 b1 (Ne.symm b3) a2 b2
  have hw : ∀ c, (s.join a b).W c ≠ 0 → c ≠ b ∧ (c = a ∨ s.W c ≠ 0) := by
    intro c hc
    constructor
    · rintro rfl; exact hc (upd_same _ _ _)
    · by_cases e : c = a
      · exact .inl e
      · refine .inr fun h0 => hc ?_
        show upd (upd s.W a _) b 0 c = 0
        by_cases e2 : c = b
        · subst e2; exact upd_same _ _ _
        · rw [upd_ne _ _ e2, upd_ne _ _ e]; exact h0
  have hWa : (s.join a b).W a ≠ 0 := by
    show upd (upd s.W a _) b 0 a ≠ 0
    rw [upd_ne _ _ (Ne.symm b3), upd_same]
    omega
  refine ⟨?_, ?_, ?_, ?_, ?_, ?_⟩
  · intro x hx
    have h1 := h.own x hx
    show (if s.own x = b then a else s.own x) < 257 ∧ (s.join a b).W (if s.own x = b then a else s.own x) ≠ 0
    by_cases e : s.own x = b
    · rw [if_pos e]; exact ⟨a1, hWa⟩
    · rw [if_neg e]
      refine ⟨h1.1, ?_⟩
      by_cases e2 : s.own x = a
      · rw [e2]; exact hWa
      · show upd (upd s.W a _) b 0 (s.own x) ≠ 0
        rw [upd_ne _ _ e, upd_ne _ _ e2]; exact h1.2
  · intro x hx
    have h1 := h.out x hx
    show (if s.own x = b then a else s.own x) = 999 ∧ (if s.own x = a ∨ s.own x = b then s.L x + 1 else s.L x) = 0
    rw [if_neg (by omega), if_neg (by omega)]
    exact h1
  · intro c hc
    obtain ⟨c1, c2⟩ := hw c hc
    show (if s.own c = b then a else s.own c) = c ∧ c < 257
    rcases c2 with rfl | c2
    · rw [(h.self _ a2).1, if_neg c1]; exact ⟨rfl, a1⟩
    · rw [(h.self _ c2).1, if_neg c1]; exact ⟨rfl, (h.self _ c2).2⟩
  · show off (upd (upd s.W a (s.W a + s.W b)) b 0) 257 = _
    have h1 := off_upd (upd s.W a (s.W a + s.W b)) b 0 257 b1
    have h2 := off_upd s.W a (s.W a + s.W b) 257 a1
    rw [upd_ne _ _ b3] at h1
    have := h.sum
    omega
  · intro x
    have h1 := h.few x
    show (if s.own x = a ∨ s.own x = b then s.L x + 1 else s.L x) + ngr (upd (upd s.W a (s.W a + s.W b)) b 0) ≤ 257
    split <;> omega
  · intro c hc
    obtain ⟨c1, c2⟩ := hw c hc
    by_cases e : c = a
    · subst e
      have ka := h.kraft _ a2
      have kb := h.kraft _ b2
      have e1 : ∀ x, x < 257 → 2 * (if (s.join c b).own x = c then 2 ^ (256 - (s.join c b).L x) else 0) = (if s.own x = c then 2 ^ (256 - s.L x) else 0) + (if s.own x = b then 2 ^ (256 - s.L x) else 0) := by
        intro x _
        show 2 * (if (if s.own x = b then c else s.own x) = c then 2 ^ (256 - (if s.own x = c ∨ s.own x = b then s.L x + 1 else s.L x)) else 0) = _
        have hL := h.few x
        by_cases q1 : s.own x = c
        · rw [q1, if_neg (Ne.symm b3), if_pos rfl, if_pos (.inl rfl), if_pos rfl, if_neg (Ne.symm b3), pow_half _ (by omega)]
          rfl
        · by_cases q2 : s.own x = b
          · rw [if_pos q2, if_pos rfl, if_pos (.inr q2), if_neg q1, if_pos q2, pow_half _ (by omega), Nat.zero_add]
          · rw [if_neg q2, if_neg q1, if_neg q1, if_neg q2]
      have e2 := off_mul (fun x => if (s.join c b).own x = c then 2 ^ (256 - (s.join c b).L x) else 0) 2 257
      rw [off_congr e1, off_add, ka, kb] at e2
      omega
    · have c3 := c2.resolve_left e
      rw [← h.kraft c c3]
      refine off_congr fun x _ => ?_
      show (if (if s.own x = b then a else s.own x) = c then 2 ^ (256 - (if s.own x = a ∨ s.own x = b then s.L x + 1 else s.L x)) else 0) = _
      by_cases q : s.own x = c
      · have qb : s.own x ≠ b := by rw [q]; exact c1
        have qa : s.own x ≠ a := by rw [q]; exact e
        rw [if_neg qb, if_pos q, if_neg (fun hh => hh.elim qa qb), if_pos q]
      · by_cases q2 : s.own x = b
        · rw [if_pos q2, if_neg (Ne.symm e), if_neg q]
        · rw [if_neg q2, if_neg q, if_neg q]

theorem Fit.start {F : Nat → Nat} (h0 : ∀ x, 257 ≤ x → F x = 0) : Fit F (hstart F) := by
  have hlt : ∀ x, F x ≠ 0 → x < 257 := fun x hx => Nat.lt_of_not_le fun h => hx (h0 x h)
  have ho : ∀ x, F x ≠ 0 → (Go.Proofs.Ytlfnjdgfllhepaa.hstart F).own x = x := fun x hx => if_neg hx
  have hz : ∀ x, F x = 0 → (Go.Proofs.Ytlfnjdgfllhepaa.hstart F).own x = 999 := fun x hx => if_pos hx
  refine ⟨fun x hx => ?_, fun x hx => ⟨hz x hx, rfl⟩, fun a ha => ⟨ho a ha, hlt a ha⟩, rfl, ?_, ?_⟩
  · rw [ho x hx]; exact ⟨hlt x hx, hx⟩
  · intro x
    show 0 + ngr F ≤ 257
    have := off_mono (f := fun i => if F i = 0 then 0 else 1) (g := fun _ => 1) (n := 257) fun i _ => by
      show (if F i = 0 then 0 else 1) ≤ 1
      split <;> omega
    have e := off_one 257
    unfold ngr
    omega
  · intro a ha
    rw [off_single (a := a) (hlt a ha)]
    · rw [if_pos (ho a ha)]
      rfl
    · intro i hi hne
      refine if_neg fun e => ?_
      by_cases q : F i = 0
      · rw [hz i q] at e
        have := hlt a ha
        omega
      · rw [ho i q] at e
        exact hne e

theorem full_out (f : Nat → Nat) (x : Nat) (h : 257 ≤ x) : full f x = 0 := by
  unfold full
  rw [if_neg (by omega), if_neg (by omega)]
/-- It goes on till one group is left. -/
theorem hrun_fit {F : Nat → Nat} (m : Nat) : ∀ s : HS, Fit F s → ngr s.W ≤ m + 1 → Fit F (hrun m s) ∧ pick (hrun m s) = none := by
  induction m with
  | zero =>
    intro s h hm
    rw [show hrun 0 s = s from rfl]
    refine ⟨h, ?_⟩
    cases e : pick s with
    | none => rfl
    | some ab =>
      obtain ⟨a, b⟩ := ab
      obtain ⟨⟨a1, a2, _, _⟩, ⟨b1, b2, b3, _⟩⟩ := pick_some e
      have := ngr_two a1 b1 (Ne.symm b3) a2 b2
      omega
  | succ m ih =>
    intro s h hm
    cases e : pick s with
    | none => rw [hrun_done e]; exact ⟨h, e⟩
    | some ab =>
      obtain ⟨a, b⟩ := ab
      obtain ⟨⟨a1, a2, _, _⟩, ⟨b1, b2, b3, _⟩⟩ := pick_some e
      rw [hrun_step e]
      refine ih _ (h.join e) ?_
      have := ngr_join s.W a b b1 (Ne.symm b3) a2 b2
      show ngr (upd (upd s.W a (s.W a + s.W b)) b 0) ≤ _
      omega
theorem lens_fit (f : Nat → Nat) : Fit (full f) (hrun 257 (hstart (full f))) ∧ pick (hrun 257 (hstart (full f))) = none := by
  have h := Fit.start (F := full f) (full_out f)
  refine hrun_fit 257 _ h ?_
  have := h.few 0
  omega
/-- What is left is one group: the lengths fill all codes just. -/
theorem one_left {F : Nat → Nat} {s : HS} (h : Fit F s) (hp : pick s = none) (x0 : Nat) (hx0 : F x0 ≠ 0) : ∃ a, ∀ x, F x ≠ 0 → s.own x = a ∧ s.W a ≠ 0 := by
  have h0 := h.own x0 hx0
  unfold pick at hp
  cases e : lst s.W 300 257 with
  | none =>
    rcases lst_none e _ h0.1 with q | q
    · exact absurd q h0.2
    · omega
  | some a =>
    rw [e] at hp
    simp only [] at hp
    cases e2 : lst s.W a 257 with
    | some b => rw [e2] at hp; cases hp
    | none =>
      refine ⟨a, fun x hx => ?_⟩
      have h1 := h.own x hx
      refine ⟨?_, (lst_some e).2.1⟩
      rcases lst_none e2 _ h1.1 with q | q
      · exact absurd q h1.2
      · exact q
end Go.Proofs.Ytlfnjdgfllhepaa
