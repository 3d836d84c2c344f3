/- Which symbols have longer codes: plain, no program in it. -/
import Derived.Test.YtlfnjdgfllhepaaBTabP
namespace Go.Proofs.Ytlfnjdgfllhepaa

/-- One group is taken ahead of another. -/
def Prec (W : Nat → Nat) (c d : Nat) : Prop := W c < W d ∨ (W c = W d ∧ d < c)
/-- What holds of groups as they are joined. -/
structure Ord (F : Nat → Nat) (s : HS) : Prop where
  fit : Fit F s
  /-- Of a group that was joined once: any two others together come behind it. -/
  late : ∀ y c d, F y ≠ 0 → s.L y ≠ 0 → s.W c ≠ 0 → s.W d ≠ 0 → c ≠ d → c ≠ s.own y → d ≠ s.own y → s.W (s.own y) < s.W c + s.W d ∨ (s.W (s.own y) = s.W c + s.W d ∧ c < s.own y ∧ d < s.own y)
  mono : ∀ x y, F x ≠ 0 → F y ≠ 0 → (F y < F x ∨ (F y = F x ∧ x ≤ y)) → s.L x ≤ s.L y ∧ (s.own x ≠ s.own y → Prec s.W (s.own x) (s.own y) → s.L x < s.L y)

theorem Ord.start {F : Nat → Nat} (h0 : ∀ x, 257 ≤ x → F x = 0) : Ord F (hstart F) := by
  have ho : ∀ x, F x ≠ 0 → (hstart F).own x = x := fun x hx => if_neg hx
  refine ⟨Fit.start h0, fun y c d _ hL => absurd rfl hL, fun x y hx hy h => ⟨Nat.le_refl _, fun hne hp => ?_⟩⟩
  rw [ho x hx, ho y hy] at hp hne
  have hp' : F x < F y ∨ (F x = F y ∧ y < x) := hp
  omega
/-- The two that are joined come ahead of all others. -/
theorem pick_ahead {s : HS} {a b c : Nat} (hp : pick s = some (a, b)) (hc : c < 257) (hW : s.W c ≠ 0) (h1 : c ≠ a) (h2 : c ≠ b) : Prec s.W a c ∧ Prec s.W b c ∧ s.W a ≤ s.W b ∧ (s.W a = s.W b → b < a) := by
  obtain ⟨⟨a1, a2, a3, a4⟩, ⟨b1, b2, b3, b4⟩⟩ := pick_some hp
  have q1 := a4 c hc hW (by omega)
  have q2 := b4 c hc hW h1
  have q3 := a4 b b1 b2 (by omega)
  unfold Prec
  omega
theorem pick_two {s : HS} {a b : Nat} (hp : pick s = some (a, b)) : a < 257 ∧ b < 257 ∧ s.W a ≠ 0 ∧ s.W b ≠ 0 ∧ b ≠ a ∧ s.W a ≤ s.W b ∧ (s.W a = s.W b → b < a) := by
  obtain ⟨⟨a1, a2, a3, a4⟩, ⟨b1, b2, b3, b4⟩⟩ := pick_some hp
  have q3 := a4 b b1 b2 (by omega)
  omega
section
variable {F : Nat → Nat} {s : HS} {a b : Nat}
theorem join_W (s : HS) {a b : Nat} (_h : b ≠ a) (c : Nat) : (s.join a b).W c = if c = b then 0 else if c = a then s.W a + s.W b else s.W c := by
  show upd (upd s.W a (s.W a + s.W b)) b 0 c = _
  by_cases e : c = b
  · rw [e, upd_same, if_pos rfl]
  · rw [upd_ne _ _ e, if_neg e]
    by_cases e2 : c = a
    · rw [e2, upd_same, if_pos rfl]
    · rw [upd_ne _ _ e2, if_neg e2]
theorem join_in (s : HS) {x a b : Nat} (h : s.own x = a ∨ s.own x = b) : (s.join a b).own x = a ∧ (s.join a b).L x = s.L x + 1 := by
  constructor
  · show (if s.own x = b then a else s.own x) = a
    rcases h with h | h
    · split
      · rfl
      · exact h
    · rw [if_pos h]
  · exact if_pos h
theorem join_out (s : HS) {x a b : Nat} (h1 : s.own x ≠ a) (h2 : s.own x ≠ b) : (s.join a b).own x = s.own x ∧ (s.join a b).L x = s.L x := by
  constructor
  · exact if_neg h2
  · exact if_neg fun h => h.elim h1 h2
theorem Ord.join (h : Ord F s) (hp : pick s = some (a, b)) : Ord F (s.join a b) := by
  obtain ⟨ha, hb, hWa, hWb, hba, hle, htie⟩ := pick_two hp
  have hfj := h.fit.join hp
  have hWj := join_W s hba
  refine ⟨hfj, ?_, ?_⟩
  · intro y c d hy hL hc hd hcd hcy hdy
    rw [hWj] at hc hd
    have hcb : c ≠ b := fun e => by rw [if_pos e] at hc; exact hc rfl
    have hdb : d ≠ b := fun e => by rw [if_pos e] at hd; exact hd rfl
    rw [if_neg hcb] at hc
    rw [if_neg hdb] at hd
    by_cases hin : s.own y = a ∨ s.own y = b
    · have hj := (join_in s hin).1
      rw [hj] at hcy hdy ⊢
      rw [hWj, hWj, hWj, if_neg (Ne.symm hba), if_pos rfl, if_neg hcb, if_neg hcy, if_neg hdb, if_neg hdy]
      rw [if_neg hcy] at hc
      rw [if_neg hdy] at hd
      have q1 := pick_ahead hp (h.fit.self c hc).2 hc hcy hcb
      have q2 := pick_ahead hp (h.fit.self d hd).2 hd hdy hdb
      unfold Prec at q1 q2
      omega
    · have h1 : s.own y ≠ a := fun e => hin (.inl e)
      have h2 : s.own y ≠ b := fun e => hin (.inr e)
      obtain ⟨j1, j2⟩ := join_out s h1 h2
      rw [j1] at hcy hdy ⊢
      rw [j2] at hL
      have hown := h.fit.own y hy
      rw [hWj, hWj, hWj, if_neg h2, if_neg h1, if_neg hcb, if_neg hdb]
      have q := h.late y a b hy hL hWa hWb (Ne.symm hba) (Ne.symm h1) (Ne.symm h2)
      by_cases e1 : c = a
      · rw [if_pos e1, if_neg (fun e => hcd (e1.trans e.symm))]
        rw [if_neg (fun e => hcd (e1.trans e.symm))] at hd
        omega
      · by_cases e2 : d = a
        · rw [if_neg e1, if_pos e2]
          rw [if_neg e1] at hc
          omega
        · rw [if_neg e1, if_neg e2]
          rw [if_neg e1] at hc
          rw [if_neg e2] at hd
          exact h.late y c d hy hL hc hd hcd hcy hdy
  · intro x y hx hy hxy
    obtain ⟨m1, m2⟩ := h.mono x y hx hy hxy
    have ox := h.fit.own x hx
    have oy := h.fit.own y hy
    by_cases hix : s.own x = a ∨ s.own x = b
    · obtain ⟨jx1, jx2⟩ := join_in s hix
      by_cases hiy : s.own y = a ∨ s.own y = b
      · obtain ⟨jy1, jy2⟩ := join_in s hiy
        rw [jx1, jy1, jx2, jy2]
        exact ⟨by omega, fun hne => absurd rfl hne⟩
      · have h1 : s.own y ≠ a := fun e => hiy (.inl e)
        have h2 : s.own y ≠ b := fun e => hiy (.inr e)
        obtain ⟨jy1, jy2⟩ := join_out s h1 h2
        have q := pick_ahead hp oy.1 oy.2 h1 h2
        have hlt : s.L x < s.L y := by
          refine m2 ?_ ?_
          · rcases hix with e | e <;> rw [e]
            · exact Ne.symm h1
            · exact Ne.symm h2
          · rcases hix with e | e <;> rw [e]
            · exact q.1
            · exact q.2.1
        rw [jx1, jy1, jx2, jy2]
        refine ⟨by omega, fun _ hpr => ?_⟩
        unfold Prec at hpr
        rw [hWj, hWj, if_neg (Ne.symm hba), if_pos rfl, if_neg h2, if_neg h1] at hpr
        have k := h.late y a b hy (by omega) hWa hWb (Ne.symm hba) (Ne.symm h1) (Ne.symm h2)
        omega
    · have g1 : s.own x ≠ a := fun e => hix (.inl e)
      have g2 : s.own x ≠ b := fun e => hix (.inr e)
      obtain ⟨jx1, jx2⟩ := join_out s g1 g2
      by_cases hiy : s.own y = a ∨ s.own y = b
      · obtain ⟨jy1, jy2⟩ := join_in s hiy
        rw [jx2, jy2]
        exact ⟨by omega, fun _ _ => by omega⟩
      · have h1 : s.own y ≠ a := fun e => hiy (.inl e)
        have h2 : s.own y ≠ b := fun e => hiy (.inr e)
        obtain ⟨jy1, jy2⟩ := join_out s h1 h2
        rw [jx1, jx2, jy1, jy2]
        refine ⟨m1, fun hne hpr => m2 hne ?_⟩
        unfold Prec at hpr ⊢
        rwa [hWj, hWj, if_neg g2, if_neg g1, if_neg h2, if_neg h1] at hpr
theorem Ord.run : ∀ (m : Nat) (s : HS), Ord F s → Ord F (hrun m s)
  | 0, _, h => h
  | m + 1, s, h => by
    cases e : pick s with
    | none => rw [hrun_done e]; exact h
    | some ab =>
      obtain ⟨a, b⟩ := ab
      rw [hrun_step e]
      exact Ord.run m _ (h.join e)
end
/-- Who comes more often has no longer code; of those that come as often, the last has the longest. -/
theorem lens_mono (f : Nat → Nat) (x y : Nat) (hx : full f x ≠ 0) (hy : full f y ≠ 0) (h : full f y < full f x ∨ (full f y = full f x ∧ x ≤ y)) : lens f x ≤ lens f y :=
  ((Ord.start (full_out f)).run 257).mono x y hx hy h |>.1
theorem lens_256 (f : Nat → Nat) (x : Nat) (hx : full f x ≠ 0) : lens f x ≤ lens f 256 := by
  refine lens_mono f x 256 hx Nat.one_ne_zero ?_
  have h1 : full f 256 = 1 := rfl
  have h2 : x < 257 := by
    by_cases h : x < 257
    · exact h
    · exact absurd (full_out f x (by omega)) hx
  omega

/-- Groups that grow deep are heavy. -/
def phi : Nat → Nat
  | 0 => 1
  | 1 => 2
  | n + 2 => phi (n + 1) + phi n
theorem phi_up : ∀ n, phi n ≤ phi (n + 1) ∧ phi (n + 1) ≤ 2 * phi n
  | 0 => by decide
  | n + 1 => by
    have ih := phi_up n
    have e : phi (n + 1 + 1) = phi (n + 1) + phi n := rfl
    constructor <;> omega
theorem phi_mono {m n : Nat} (h : m ≤ n) : phi m ≤ phi n := by
  induction n with
  | zero =>
    obtain rfl : m = 0 := by omega
    exact Nat.le_refl _
  | succ n ih =>
    by_cases e : m = n + 1
    · rw [e]; exact Nat.le_refl _
    · exact Nat.le_trans (ih (by omega)) (phi_up n).1
structure Heavy (F : Nat → Nat) (s : HS) : Prop where
  fit : Fit F s
  own : ∀ x, F x ≠ 0 → phi (s.L x) ≤ s.W (s.own x)
  oth : ∀ x c, F x ≠ 0 → s.W c ≠ 0 → c ≠ s.own x → phi (s.L x - 1) ≤ s.W c
theorem Heavy.start {F : Nat → Nat} (h0 : ∀ x, 257 ≤ x → F x = 0) : Heavy F (hstart F) := by
  refine ⟨Fit.start h0, fun x hx => ?_, fun x c _ hc _ => ?_⟩
  · show phi 0 ≤ F (if F x = 0 then 999 else x)
    rw [if_neg hx]
    show 1 ≤ F x
    omega
  · show phi (0 - 1) ≤ F c
    have : F c ≠ 0 := hc
    show 1 ≤ F c
    omega
theorem Heavy.join {F : Nat → Nat} {s : HS} {a b : Nat} (h : Heavy F s) (hp : pick s = some (a, b)) : Heavy F (s.join a b) := by
  obtain ⟨ha, hb, hWa, hWb, hba, hle, htie⟩ := pick_two hp
  have hWj := join_W s hba
  refine ⟨h.fit.join hp, fun x hx => ?_, fun x c hx hc hcx => ?_⟩
  · have ho := h.own x hx
    by_cases hix : s.own x = a ∨ s.own x = b
    · obtain ⟨j1, j2⟩ := join_in s hix
      rw [j1, j2, hWj, if_neg (Ne.symm hba), if_pos rfl]
      rcases hix with e | e
      · rw [e] at ho
        have := (phi_up (s.L x)).2
        omega
      · rw [e] at ho
        have q := h.oth x a hx hWa (by rw [e]; exact Ne.symm hba)
        cases hl : s.L x with
        | zero =>
          have e1 : phi (0 + 1) = 2 := rfl
          rw [e1]
          omega
        | succ n =>
          rw [hl] at ho q
          have e1 : phi (n + 1 + 1) = phi (n + 1) + phi n := rfl
          have e2 : n + 1 - 1 = n := by omega
          rw [e2] at q
          omega
    · obtain ⟨j1, j2⟩ := join_out s (fun e => hix (.inl e)) (fun e => hix (.inr e))
      rw [j1, j2, hWj, if_neg (fun e => hix (.inr e)), if_neg (fun e => hix (.inl e))]
      exact ho
  · rw [hWj] at hc ⊢
    have hcb : c ≠ b := fun e => by rw [if_pos e] at hc; exact hc rfl
    rw [if_neg hcb] at hc ⊢
    by_cases hix : s.own x = a ∨ s.own x = b
    · obtain ⟨j1, j2⟩ := join_in s hix
      rw [j1] at hcx
      rw [j2, if_neg hcx]
      rw [if_neg hcx] at hc
      have ho := h.own x hx
      have q := pick_ahead hp (h.fit.self c hc).2 hc hcx hcb
      unfold Prec at q
      have e2 : s.L x + 1 - 1 = s.L x := by omega
      rw [e2]
      rcases hix with e | e <;> rw [e] at ho <;> omega
    · obtain ⟨j1, j2⟩ := join_out s (fun e => hix (.inl e)) (fun e => hix (.inr e))
      rw [j1] at hcx
      rw [j2]
      by_cases e : c = a
      · rw [if_pos e]
        have q := h.oth x a hx hWa (by rw [← e]; exact hcx)
        omega
      · rw [if_neg e]
        rw [if_neg e] at hc
        exact h.oth x c hx hc hcx
theorem Heavy.run {F : Nat → Nat} : ∀ (m : Nat) (s : HS), Heavy F s → Heavy F (hrun m s)
  | 0, _, h => h
  | m + 1, s, h => by
    cases e : pick s with
    | none => rw [hrun_done e]; exact h
    | some ab =>
      obtain ⟨a, b⟩ := ab
      rw [hrun_step e]
      exact Heavy.run m _ (h.join e)
/-- 2001 in all make no code of more than 15 bits. -/
theorem lens_short (f : Nat → Nat) (h : off f 256 ≤ 2000) (x : Nat) : lens f x ≤ 15 := by
  have hh := (Heavy.start (full_out f)).run 257
  by_cases hx : full f x = 0
  · have := (hh.fit.out x hx).2
    unfold lens
    omega
  · have h1 := hh.own x hx
    have h2 := off_at (hrun 257 (hstart (full f))).W (hh.fit.own x hx).1
    rw [hh.fit.sum] at h2
    have h3 : off (full f) 257 ≤ 2001 := by
      show off (full f) 256 + full f 256 ≤ 2001
      have e1 : full f 256 = 1 := rfl
      have e2 : off (full f) 256 = off f 256 := off_congr fun i hi => by
        unfold full
        rw [if_neg (by omega), if_pos hi]
      omega
    by_cases h4 : lens f x ≤ 15
    · exact h4
    · have h5 := phi_mono (m := 16) (n := lens f x) (by omega)
      have h6 : phi 16 = 2584 := by decide
      unfold lens at h5
      omega
end Go.Proofs.Ytlfnjdgfllhepaa
