/- What is read of a body is written as that body: plain. -/
import Derived.Test.YtfohgocdabgbgaaDoorMByt
namespace Go.Proofs.YtfohgocdabgbgaaDoor
open Go.RowKit

/-! What is read of a body is written as that body: plain. -/
/-- What was written is what was read. -/
def Wt (s : ByteArray) (L : List UInt8) (p : Nat × Nat) : Prop := L = s.data.toList.take p.1
theorem rneed_yes {ok : Bool} {x : Nat} {p : Nat × Nat} (hx : x ≠ 0) (h : (rneed ok x p).2 = 0) : rneed ok x p = p ∧ ok = true := by
  have h0 := rneed_ok h
  unfold rneed at h ⊢
  by_cases h1 : p.2 = 0 ∧ ok = false
  · rw [if_pos h1] at h; exact absurd h hx
  · rw [if_neg h1]
    refine ⟨rfl, ?_⟩
    cases ok
    · exact absurd ⟨h0, rfl⟩ h1
    · rfl
theorem ext_list (s : ByteArray) (a m : Nat) : (s.extract a (a + m)).data.toList = (s.data.toList.drop a).take m := by
  rw [ByteArray.data_extract, Array.toList_extract, List.extract_eq_take_drop]
  congr 1
  omega
theorem take_more (l : List UInt8) (a m : Nat) : l.take (a + m) = l.take a ++ (l.drop a).take m := by
  rw [List.take_add]
theorem pbytes_num (l : List UInt8) (h1 : 1 ≤ l.length) (h4 : l.length ≤ 4) : pbytes (num l 0 : Nat) (l.length : Nat) = l := by
  have hlt := num_lt l
  unfold pbytes putted
  rw [if_neg (by omega), if_neg (by simp only [Int.toNat_natCast]; omega)]
  simp only [Int.toNat_natCast]
  exact be_num l 0
theorem Wt.num {s : ByteArray} {L : List UInt8} {p : Nat × Nat} {m : Nat} (h1 : 1 ≤ m) (h4 : m ≤ 4) (hL : Wt s L p) (h : (rnum s m p).2.2 = 0) : Wt s (L ++ pbytes ((rnum s m p).1 : Nat) (m : Nat)) (rnum s m p).2 := by
  have h0 := rnum_ok h
  unfold rnum at h ⊢
  rw [if_pos h0] at h ⊢
  by_cases hs : s.size - p.1 < m
  · rw [if_pos hs] at h; cases h
  · rw [if_neg hs]
    unfold Wt at hL ⊢
    simp only []
    have hsz : s.data.toList.length = s.size := by simp
    have hlen : ((s.data.toList.drop p.1).take m).length = m := by rw [List.length_take, List.length_drop, hsz]; omega
    rw [ext_list, take_more, hL]
    congr 1
    have := pbytes_num ((s.data.toList.drop p.1).take m) (by omega) (by omega)
    rw [hlen] at this
    exact this
theorem Wt.pair {s : ByteArray} {L : List UInt8} {p : Nat × Nat} (hL : Wt s L p) (h : (rpair s p).2.2 = 0) : Wt s (L ++ pbytes (pairI ((rpair s p).1.1 : Nat) ((rpair s p).1.2 : Nat)) 1) (rpair s p).2 := by
  have h1 := rnum_one s p
  have h2 : Wt s (L ++ pbytes ((rnum s 1 p).1 : Nat) 1) (rnum s 1 p).2 := Wt.num (m := 1) (by omega) (by omega) hL h
  unfold rpair
  simp only []
  have e : pairI (((rnum s 1 p).1 / 16 : Nat) : Int) (((rnum s 1 p).1 % 16 : Nat) : Int) = ((rnum s 1 p).1 : Nat) := by
    unfold pairI
    generalize (rnum s 1 p).1 = v at *
    rw [wrap64_small (16 * ((v / 16 : Nat) : Int)) (by omega) (by omega), wrap64_small _ (by omega) (by omega)]
    omega
  rw [e]
  exact h2
theorem Wt.take {s : ByteArray} {L : List UInt8} {p : Nat × Nat} {m : Nat} (hL : Wt s L p) (h : (rtake s m p).2.2 = 0) : Wt s (L ++ (rtake s m p).1.data.toList) (rtake s m p).2 := by
  have h0 := rtake_ok h
  unfold rtake at h ⊢
  rw [if_pos h0] at h ⊢
  by_cases hs : s.size - p.1 < m
  · rw [if_pos hs] at h; cases h
  · rw [if_neg hs]
    unfold Wt at hL ⊢
    simp only []
    rw [ext_list, take_more, hL]
theorem Wt.end {s : ByteArray} {L : List UInt8} {p : Nat × Nat} (hL : Wt s L p) (h : s.size - p.1 = 0) : L = s.data.toList := by
  unfold Wt at hL
  rw [hL, List.take_of_length_le (by have : s.data.toList.length = s.size := by simp
                                     omega)]
theorem Wt.start (s : ByteArray) : Wt s [] (0, 0) := by simp [Wt]

/-- A component. -/
theorem Wt.part {s : ByteArray} {L : List UInt8} {p : Nat × Nat} (hL : Wt s L p) (h : (rpart s p).2.2 = 0) :
    Wt s (L ++ pbytes (ptI (rpart s p).1).1 1 ++ pbytes (pairI (ptI (rpart s p).1).2.1 (ptI (rpart s p).1).2.2.1) 1 ++ pbytes (ptI (rpart s p).1).2.2.2 1) (rpart s p).2 := by
  unfold rpart ptI at *
  simp only [] at h ⊢
  obtain ⟨e1, _⟩ := rneed_yes (by decide) h
  rw [e1] at h ⊢
  have h2 := rnum_ok h
  obtain ⟨e2, _⟩ := rneed_yes (by decide) h2
  rw [e2] at h ⊢
  have h3 := rnum_ok h
  have h4 := rnum_ok (show (rnum s 1 (rnum s 1 p).2).2.2 = 0 from h3)
  have w1 := Wt.num (m := 1) (by omega) (by omega) hL h4
  have w2 := Wt.pair w1 h3
  exact Wt.num (m := 1) (by omega) (by omega) w2 h
theorem rps_ok {s : ByteArray} {p : Nat × Nat} : ∀ k, (rps s p k).2.2 = 0 → p.2 = 0
  | 0, h => h
  | k + 1, h => by
    have h1 := rneed_ok (show (rneed _ 7 _).2 = 0 from h)
    unfold rpart at h1
    simp only [] at h1
    have h2 := rnum_ok (rneed_ok h1)
    have h3 := rneed_ok h2
    exact rps_ok k (rnum_ok (rnum_ok (show (rnum s 1 (rnum s 1 (rps s p k).2).2).2.2 = 0 from h3)))
theorem Wt.parts {s : ByteArray} {L : List UInt8} {p : Nat × Nat} (hL : Wt s L p) : ∀ k, (rps s p k).2.2 = 0 → Wt s (L ++ wparts (rps s p k).1) (rps s p k).2
  | 0, _ => by simpa [rps, wparts] using hL
  | k + 1, h => by
    obtain ⟨e1, _⟩ := rneed_yes (by decide) (show (rneed _ 7 (rpart s (rps s p k).2).2).2 = 0 from h)
    have h1 : (rpart s (rps s p k).2).2.2 = 0 := rneed_ok (show (rneed _ 7 (rpart s (rps s p k).2).2).2 = 0 from h)
    have h0 : (rps s p k).2.2 = 0 := by
      unfold rpart at h1
      simp only [] at h1
      exact rnum_ok (rnum_ok (show (rnum s 1 (rnum s 1 (rps s p k).2).2).2.2 = 0 from rneed_ok (rnum_ok (rneed_ok h1))))
    have w0 := Wt.parts hL k h0
    have w1 := Wt.part w0 h1
    show Wt s (L ++ wparts ((rps s p k).1 ++ [ptI (rpart s (rps s p k).2).1])) (rneed _ 7 (rpart s (rps s p k).2).2)
    rw [e1, wparts_snoc]
    simpa [List.append_assoc] using w1
theorem Wt.frame (s : ByteArray) (h : (rframe s (0, 0)).2.2 = 0) : Wt s (wframe ((rframe s (0, 0)).1.1 : Nat) ((rframe s (0, 0)).1.2.1 : Nat) (rframe s (0, 0)).1.2.2) (rframe s (0, 0)).2 := by
  unfold rframe at h ⊢
  simp only [] at h ⊢
  have h1 := rps_ok _ h
  have hlen := rps_length s (rhead s (0, 0)).2 (rhead s (0, 0)).1.2.2
  unfold wframe
  rw [hlen]
  refine Wt.parts ?_ _ h
  clear h hlen
  unfold rhead at h1 ⊢
  simp only [] at h1 ⊢
  obtain ⟨e1, _⟩ := rneed_yes (by decide) h1
  rw [e1] at h1 ⊢
  obtain ⟨e2, _⟩ := rneed_yes (by decide) h1
  rw [e2] at h1 ⊢
  have h2 := rnum_ok h1
  obtain ⟨e3, _⟩ := rneed_yes (by decide) h2
  rw [e3] at h1 h2 ⊢
  obtain ⟨e4, _⟩ := rneed_yes (by decide) h2
  rw [e4] at h1 h2 ⊢
  have h3 := rnum_ok h2
  have h4 := rnum_ok h3
  obtain ⟨e5, e6⟩ := rneed_yes (by decide) h4
  rw [e5] at h1 h2 h3 h4 ⊢
  have h8 : (rnum s 1 (0, 0)).1 = 8 := by simpa using e6
  have w1 := Wt.num (m := 1) (by omega) (by omega) (Wt.start s) h4
  rw [h8] at w1
  have w2 := Wt.num (m := 2) (by omega) (by omega) w1 h3
  have w3 := Wt.num (m := 2) (by omega) (by omega) w2 h2
  have w4 := Wt.num (m := 1) (by omega) (by omega) w3 h1
  simpa [List.append_assoc] using w4
/-- A scan's component. -/
theorem rpk_ok {s : ByteArray} {p : Nat × Nat} : ∀ k, (rpk s p k).2.2 = 0 → p.2 = 0
  | 0, h => h
  | k + 1, h => by
    have h1 := rneed_ok (show (rneed _ 8 _).2 = 0 from h)
    have h2 := rneed_ok (rnum_ok h1)
    exact rpk_ok k (rnum_ok h2)
theorem Wt.picks {s : ByteArray} {L : List UInt8} {p : Nat × Nat} (hL : Wt s L p) : ∀ k, (rpk s p k).2.2 = 0 → Wt s (L ++ wpicks (rpk s p k).1) (rpk s p k).2
  | 0, _ => by simpa [rpk, wpicks] using hL
  | k + 1, h => by
    unfold rpk at h ⊢
    simp only [] at h ⊢
    obtain ⟨e1, _⟩ := rneed_yes (by decide) h
    rw [e1] at h ⊢
    have h1 := rnum_ok h
    obtain ⟨e2, _⟩ := rneed_yes (by decide) h1
    rw [e2] at h h1 ⊢
    have w0 := Wt.picks hL k (rnum_ok h1)
    have w1 := Wt.num (m := 1) (by omega) (by omega) w0 h1
    have w2 := Wt.pair w1 h
    rw [wpicks_snoc]
    simpa [List.append_assoc] using w2
theorem rtail_ok {s : ByteArray} {p : Nat × Nat} (h : (rtail s p).2.2 = 0) : p.2 = 0 := by
  unfold rtail at h
  simp only [] at h
  exact rnum_ok (rnum_ok (rnum_ok (show (rnum s 1 (rnum s 1 (rnum s 1 p).2).2).2.2 = 0 from rneed_ok (rneed_ok h))))
theorem Wt.scan (s : ByteArray) (h : (rscan s (0, 0)).2.2 = 0) : Wt s (wscan (rscan s (0, 0)).1.1 ((rscan s (0, 0)).1.2.1 : Nat) ((rscan s (0, 0)).1.2.2.1 : Nat) ((rscan s (0, 0)).1.2.2.2.1 : Nat) ((rscan s (0, 0)).1.2.2.2.2 : Nat)) (rscan s (0, 0)).2 := by
  unfold rscan at h ⊢
  simp only [] at h ⊢
  have h1 := rtail_ok h
  have h2 := rpk_ok _ h1
  unfold wscan
  rw [rpk_length]
  obtain ⟨e1, _⟩ := rneed_yes (by decide) h2
  rw [e1] at h h1 h2 ⊢
  have w1 := Wt.num (m := 1) (by omega) (by omega) (Wt.start s) h2
  have w2 := Wt.picks w1 _ h1
  generalize (rpk s (rnum s 1 (0, 0)).2 (rnum s 1 (0, 0)).1) = x at *
  unfold rtail at h ⊢
  simp only [] at h ⊢
  obtain ⟨e2, _⟩ := rneed_yes (by decide) h
  rw [e2] at h ⊢
  obtain ⟨e3, _⟩ := rneed_yes (by decide) h
  rw [e3] at h ⊢
  have h3 : (rnum s 1 (rnum s 1 x.2).2).2.2 = 0 := rnum_ok (show (rnum s 1 (rnum s 1 (rnum s 1 x.2).2).2).2.2 = 0 from h)
  have w3 := Wt.num (m := 1) (by omega) (by omega) w2 (rnum_ok h3)
  have w4 := Wt.num (m := 1) (by omega) (by omega) w3 h3
  have w5 := Wt.pair w4 h
  simpa [List.append_assoc] using w5
/-- Tables, one behind the other. -/
theorem Wt.list {α : Type} {s : ByteArray} {rd : Nat × Nat → α × (Nat × Nat)} {wr : α → List UInt8} (hrd : ∀ L p, Wt s L p → (rd p).2.2 = 0 → Wt s (L ++ wr (rd p).1) (rd p).2) (hok : ∀ p, (rd p).2.2 = 0 → p.2 = 0) :
    ∀ f L p, Wt s L p → (rlist rd s f p).2.2 = 0 → Wt s (L ++ (rlist rd s f p).1.flatMap wr) (rlist rd s f p).2
  | 0, L, p, hL, _ => by simpa [rlist] using hL
  | f + 1, L, p, hL, h => by
    by_cases hm : rmore s p = true
    · rw [rlist_yes hm] at h ⊢
      simp only [] at h ⊢
      have h1 : (rd p).2.2 = 0 := by
        apply Classical.byContradiction
        intro h0
        have hno : rmore s (rd p).2 = false := by unfold rmore; simp [h0]
        rw [rlist_no hno] at h
        exact h0 h
      have w := Wt.list hrd hok f _ _ (hrd L p hL h1) h
      simpa [List.append_assoc] using w
    · have hno : rmore s p = false := by simpa using hm
      rw [rlist_no hno]
      simpa using hL
theorem Wt.all {α : Type} {s : ByteArray} {rd : Nat × Nat → α × (Nat × Nat)} {wr : α → List UInt8} (hrd : ∀ L p, Wt s L p → (rd p).2.2 = 0 → Wt s (L ++ wr (rd p).1) (rd p).2) (hok : ∀ p, (rd p).2.2 = 0 → p.2 = 0)
    (h : (rall rd s (0, 0)).2.2 = 0) : Wt s ((rall rd s (0, 0)).1.flatMap wr) (rall rd s (0, 0)).2 := by
  unfold rall at h ⊢
  simp only [] at h ⊢
  have h1 : (rd (0, 0)).2.2 = 0 := by
    apply Classical.byContradiction
    intro h0
    have hno : rmore s (rd (0, 0)).2 = false := by unfold rmore; simp [h0]
    rw [rlist_no hno] at h
    exact h0 h
  have w := Wt.list hrd hok _ _ _ (hrd [] (0, 0) (Wt.start s) h1) h
  simpa using w
theorem Wt.place {s : ByteArray} {L : List UInt8} {p : Nat × Nat} (hL : Wt s L p) (h : (rplace s p).2.2 = 0) : Wt s (L ++ pbytes (pairI ((rplace s p).1.1 : Nat) ((rplace s p).1.2 : Nat)) 1) (rplace s p).2 := by
  unfold rplace at h ⊢
  simp only [] at h ⊢
  obtain ⟨e1, _⟩ := rneed_yes (by decide) h
  rw [e1] at h ⊢
  exact Wt.pair hL h
theorem Wt.tab {s : ByteArray} {L : List UInt8} {q : Nat × Nat} {m : Nat} (h1 : 1 ≤ m) (h4 : m ≤ 4) (hL : Wt s L q) : ∀ k, (rtab s m q k).2 = 0 → Wt s (L ++ (List.range k).flatMap fun i => pbytes (rent s m q i : Nat) (m : Nat)) (rtab s m q k)
  | 0, _ => by simpa [rtab] using hL
  | k + 1, h => by
    have h0 : (rneed (decide ((rnum s m (rtab s m q k)).1 ≠ 0)) 5 (rnum s m (rtab s m q k)).2).2 = 0 := h
    obtain ⟨e1, _⟩ := rneed_yes (by decide) h0
    have h2 := rneed_ok h0
    have w0 := Wt.tab h1 h4 hL k (rnum_ok h2)
    have w1 := Wt.num h1 h4 w0 h2
    rw [show (rnum s m (rtab s m q k)).1 = rent s m q k from rfl] at w1
    show Wt s _ (rneed (decide ((rnum s m (rtab s m q k)).1 ≠ 0)) 5 (rnum s m (rtab s m q k)).2)
    rw [e1, List.range_succ, List.flatMap_append]
    simpa [List.append_assoc] using w1
theorem flatMap_range {β : Type} (f g : Nat → List β) : ∀ n, (∀ i, i < n → f i = g i) → (List.range n).flatMap f = (List.range n).flatMap g
  | 0, _ => rfl
  | n + 1, h => by
    rw [List.range_succ, List.flatMap_append, List.flatMap_append, flatMap_range f g n fun i hi => h i (by omega)]
    simp [h n (by omega)]
theorem Wt.quant (s : ByteArray) (L : List UInt8) (p : Nat × Nat) (hL : Wt s L p) (h : (rquant s p).2.2 = 0) : Wt s (L ++ wquant (qt (rquant s p).1)) (rquant s p).2 := by
  have h1 : (rplace s p).2.2 = 0 := by
    unfold rquant at h
    simp only [] at h
    generalize 64 = K at h
    exact rtab_ok _ _ _ K h
  have hk := rplace_ok s p h1
  have w1 := Wt.place hL h1
  unfold rquant at h ⊢
  simp only [] at h ⊢
  have w2 := Wt.tab (m := 1 + (rplace s p).1.1) (by omega) (by omega) w1 64 h
  have e1 : wideI (decide ((rplace s p).1.1 = 1)) = ((rplace s p).1.1 : Nat) := by
    unfold wideI
    by_cases h1 : (rplace s p).1.1 = 1
    · rw [h1]; rfl
    · rw [if_neg (by simpa using h1)]; omega
  unfold wquant qt wents
  simp only []
  rw [e1]
  have e2 : (List.range 64).flatMap (fun i => pbytes ((rent s (1 + (rplace s p).1.1) (rplace s p).2 (sp (zz i)) : Nat) : Int) (1 + ((rplace s p).1.1 : Nat))) = (List.range 64).flatMap (fun i => pbytes (rent s (1 + (rplace s p).1.1) (rplace s p).2 i : Nat) ((1 + (rplace s p).1.1 : Nat) : Int)) := by
    refine flatMap_range _ _ 64 fun i hi => ?_
    rw [sp_zz i hi]
    first | rfl | (congr 1; omega)
  rw [e2, ← List.append_assoc]
  exact w2
theorem rquant_ok (s : ByteArray) (p : Nat × Nat) (h : (rquant s p).2.2 = 0) : p.2 = 0 := by
  unfold rquant at h
  simp only [] at h
  generalize 64 = K at h
  have := rtab_ok _ _ _ K h
  unfold rplace at this
  simp only [] at this
  exact rnum_ok (rneed_ok this)
theorem Wt.cnts {s : ByteArray} {L : List UInt8} {q : Nat × Nat} (hL : Wt s L q) : ∀ k, (rcs s q k).2 = 0 → Wt s (L ++ wcnts (rcnt s q) k) (rcs s q k)
  | 0, _ => by simpa [rcs, wcnts] using hL
  | k + 1, h => by
    have w0 := Wt.cnts hL k (rnum_ok h)
    have w1 := Wt.num (m := 1) (by omega) (by omega) w0 h
    rw [wcnts_succ, ← List.append_assoc]
    exact w1
theorem Wt.huff (s : ByteArray) (L : List UInt8) (p : Nat × Nat) (hL : Wt s L p) (h : (rhuff s p).2.2 = 0) : Wt s (L ++ whuff (rhuff s p).1) (rhuff s p).2 := by
  unfold rhuff at h ⊢
  simp only [] at h ⊢
  obtain ⟨e1, _⟩ := rneed_yes (by decide) h
  rw [e1] at h ⊢
  have h1 := rtake_ok h
  have w1 := Wt.place hL (rcs_ok _ _ _ h1)
  have w2 := Wt.cnts w1 16 h1
  have w3 := Wt.take w2 h
  unfold whuff
  simp only []
  simpa [List.append_assoc] using w3
theorem rhuff_ok (s : ByteArray) (p : Nat × Nat) (h : (rhuff s p).2.2 = 0) : p.2 = 0 := by
  unfold rhuff at h
  simp only [] at h
  have := rcs_ok _ _ _ (rtake_ok (rneed_ok h))
  unfold rplace at this
  simp only [] at this
  exact rnum_ok (rneed_ok this)
/-- The body of a segment. -/
def wbody : PS → List UInt8
  | .inl (_, s) => s.data.toList
  | .inr (.inl l) => wquants l
  | .inr (.inr (.inl l)) => whuffs l
  | .inr (.inr (.inr (.inl (_, h, u, l)))) => wframe h u l
  | .inr (.inr (.inr (.inr (.inl (l, f, t, h, u))))) => wscan l f t h u
  | .inr (.inr (.inr (.inr (.inr n)))) => pbytes n 2
theorem end_of {z : Int} {s : ByteArray} (h : perr z s = 0) : (rseg z s).2.2 = 0 ∧ s.size - (rseg z s).2.1 = 0 := by
  unfold perr at h
  by_cases h1 : refu z ≠ 0
  · rw [if_pos h1] at h; exact absurd h h1
  · rw [if_neg h1] at h
    by_cases h2 : 65533 < s.size
    · rw [if_pos h2] at h; cases h
    · rw [if_neg h2] at h
      obtain ⟨e1, e2⟩ := rneed_yes (by decide) h
      rw [e1] at h
      exact ⟨h, by simpa using e2⟩
/-- What is read is written back. -/
theorem back_body (z : Int) (s : ByteArray) (h : perr z s = 0) : wbody (rseg z s).1 = s.data.toList := by
  obtain ⟨h1, h2⟩ := end_of h
  clear h
  unfold rseg at h1 h2 ⊢
  by_cases q1 : z = 196
  · rw [if_pos q1] at h1 h2 ⊢
    dsimp only at h1 h2
    have w := Wt.end (Wt.all (wr := whuff) (Wt.huff s) (rhuff_ok s) h1) h2
    rw [← w]
    show whuffs (rall (rhuff s) s (0, 0)).1 = _
    unfold whuffs
    rfl
  rw [if_neg q1] at h1 h2 ⊢
  by_cases q2 : z = 218
  · rw [if_pos q2] at h1 h2 ⊢
    dsimp only at h1 h2
    have w := Wt.end (Wt.scan s h1) h2
    exact w
  rw [if_neg q2] at h1 h2 ⊢
  by_cases q3 : z = 219
  · rw [if_pos q3] at h1 h2 ⊢
    dsimp only at h1 h2
    have w := Wt.end (Wt.all (wr := fun x => wquant (qt x)) (Wt.quant s) (rquant_ok s) h1) h2
    rw [← w]
    show wquants (List.map qt (rall (rquant s) s (0, 0)).1) = _
    unfold wquants
    rw [List.flatMap_map]
  rw [if_neg q3] at h1 h2 ⊢
  by_cases q4 : z = 221
  · rw [if_pos q4] at h1 h2 ⊢
    dsimp only at h1 h2
    have w := Wt.end (Wt.num (m := 2) (by omega) (by omega) (Wt.start s) h1) h2
    rw [List.nil_append] at w
    exact w
  rw [if_neg q4] at h1 h2 ⊢
  by_cases q5 : 192 ≤ z ∧ z ≤ 194
  · rw [if_pos q5] at h1 h2 ⊢
    dsimp only at h1 h2
    have w := Wt.end (Wt.frame s h1) h2
    exact w
  rw [if_neg q5]
  rfl
/-! What was parsed is written back: the bytes of what was read. -/
set_option maxHeartbeats 1000000 in
theorem Code62 (v : Value) (hv : ∃ p n c, v = .slice p n c) (w : World) : Calls Tryd.prog 105 #[.agg #[v]] w fun e w' => e = .returned (.int .i64 219) ∧ Below w.heap.size w w' := by
  obtain ⟨p, n, c, rfl⟩ := hv
  have HB := Lib.hid (below_new w (.cells #[.slice p n c] 62))
  go_enter Tryd.func105, Tryd.ntmps105
  go_wp2
  go_ret
  exact ⟨rfl, HB.out⟩
set_option maxHeartbeats 1000000 in
theorem Code70 (v : Value) (hv : ∃ p n c, v = .slice p n c) (w : World) : Calls Tryd.prog 106 #[.agg #[v]] w fun e w' => e = .returned (.int .i64 196) ∧ Below w.heap.size w w' := by
  obtain ⟨p, n, c, rfl⟩ := hv
  have HB := Lib.hid (below_new w (.cells #[.slice p n c] 70))
  go_enter Tryd.func106, Tryd.ntmps106
  go_wp2
  go_ret
  exact ⟨rfl, HB.out⟩
set_option maxHeartbeats 1000000 in
theorem Code44 (z h u : Int) (v : Value) (hv : ∃ p n c, v = .slice p n c) (w : World) : Calls Tryd.prog 102 #[.agg #[.int .i64 z, .int .i64 h, .int .i64 u, v]] w fun e w' => e = .returned (.int .i64 z) ∧ Below w.heap.size w w' := by
  obtain ⟨p, n, c, rfl⟩ := hv
  have HB := Lib.hid (below_new w (.cells #[.int .i64 z, .int .i64 h, .int .i64 u, .slice p n c] 44))
  go_enter Tryd.func102, Tryd.ntmps102
  go_wp2
  go_ret
  exact ⟨rfl, HB.out⟩
set_option maxHeartbeats 1000000 in
theorem Code49 (f t h u : Int) (v : Value) (hv : ∃ p n c, v = .slice p n c) (w : World) : Calls Tryd.prog 103 #[.agg #[v, .int .i64 f, .int .i64 t, .int .i64 h, .int .i64 u]] w fun e w' => e = .returned (.int .i64 218) ∧ Below w.heap.size w w' := by
  obtain ⟨p, n, c, rfl⟩ := hv
  have HB := Lib.hid (below_new w (.cells #[.slice p n c, .int .i64 f, .int .i64 t, .int .i64 h, .int .i64 u] 49))
  go_enter Tryd.func103, Tryd.ntmps103
  go_wp2
  go_ret
  exact ⟨rfl, HB.out⟩
set_option maxHeartbeats 1000000 in
theorem Code98 (z : Int) (s : ByteArray) (w : World) : Calls Tryd.prog 110 #[.agg #[.int .i64 z, .string s]] w fun e w' => e = .returned (.int .i64 z) ∧ Below w.heap.size w w' := by
  have HB := Lib.hid (below_new w (.cells #[.int .i64 z, .string s] 98))
  go_enter Tryd.func110, Tryd.ntmps110
  go_wp2
  go_ret
  exact ⟨rfl, HB.out⟩
set_option maxHeartbeats 1000000 in
theorem Code76 (n : Int) (w : World) : Calls Tryd.prog 107 #[.agg #[.int .i64 n]] w fun e w' => e = .returned (.int .i64 221) ∧ Below w.heap.size w w' := by
  have HB := Lib.hid (below_new w (.cells #[.int .i64 n] 76))
  go_enter Tryd.func107, Tryd.ntmps107
  go_wp2
  go_ret
  exact ⟨rfl, HB.out⟩
/-! SegBack answers true at every code and every body: its walk. -/
theorem u8_lit (n : Nat) (h : n < 256) : ((n : Nat) : Int) = (n.toUInt8.toNat : Nat) := by
  rw [show n.toUInt8.toNat = n from by simp [Nat.toUInt8, UInt8.toNat, UInt8.ofNat, BitVec.toNat_ofNat]; omega]
/-- Three bytes, as a text. -/
theorem conv_three (w : World) (a b c : Nat) (ha : a < 256) (hb : b < 256) (hc : c < 256) : (convert 31 9 (.slice (some ⟨w.heap.size, 0, none⟩) 3 3)).run Tryd.prog (w.alloc (.cells #[.int .u8 (a : Nat), .int .u8 (b : Nat), .int .u8 (c : Nat)] 5)) = .ok (.string ⟨#[a.toUInt8, b.toUInt8, c.toUInt8]⟩) (w.alloc (.cells #[.int .u8 (a : Nat), .int .u8 (b : Nat), .int .u8 (c : Nat)] 5)) := by
  refine run_convert_bytes_back _ 31 9 5 ⟨w.heap.size, 0, none⟩ 3 [a.toUInt8, b.toUInt8, c.toUInt8] Tryd.underlying31 Tryd.underlying5 Tryd.underlying9 fun j hj => ?_
  rw [add_none, Nat.zero_add, cell_of_row _ w.heap.size j _ 5 (0, 0) (heap_alloc_new w _), u8_lit a ha, u8_lit b hb, u8_lit c hc]
  have : j = 0 ∨ j = 1 ∨ j = 2 := by simp at hj; omega
  rcases this with rfl | rfl | rfl <;> rfl
theorem back_text (z : Nat) (hz : z < 256) (s : ByteArray) (hs : s.size ≤ 65533) : (⟨(wbytes z s).toArray⟩ : ByteArray) = (⟨#[255]⟩ ++ ⟨#[z.toUInt8, ((s.size + 2) / 256).toUInt8, ((s.size + 2) % 256).toUInt8]⟩) ++ s := by
  apply ByteArray.ext
  have e1 : pbytes (z : Nat) 1 = [z.toUInt8] := pbytes_one z hz
  have e2 : pbytes ((s.size : Int) + 2) 2 = [((s.size + 2) / 256).toUInt8, ((s.size + 2) % 256).toUInt8] := by
    have hn : ¬ ((s.size : Int) + 2 < 0 ∨ ((256 ^ (2 : Int).toNat : Nat) : Int) ≤ (s.size : Int) + 2) := by simp; omega
    unfold pbytes putted
    rw [if_neg (by omega), if_neg hn]
    have : ((s.size : Int) + 2).toNat = s.size + 2 := by omega
    rw [this]
    show be (s.size + 2) 2 = _
    simp only [be, Nat.pow_zero, Nat.pow_one, Nat.div_one]
    rw [Nat.mod_eq_of_lt (show (s.size + 2) / 256 < 256 by omega)]
  unfold wbytes
  rw [e1, e2]
  simp [← Array.toList_inj]
set_option maxHeartbeats 2000000 in
set_option maxRecDepth 100000 in
/-- It is refused. -/
theorem SegBack_no (z : Int) (s : ByteArray) (E : Nat) (hE : E ≠ 0) (w : World)
    (hP : Calls Tryd.prog 9 #[.int .i64 z, .string s] w fun e w' => e = .returned (.tuple #[.nilIface, .int .i64 E]) ∧ Below w.heap.size w w') :
    Calls Tryd.prog 3 #[.int .i64 z, .string s] w fun e w' => e = .returned (.bool true) ∧ Below w.heap.size w w' := by
  have HP := Lib.hid hP
  have HA := Lib.hid awake_any
  have e0 : ((E : Int) != 0) = true := by simp; omega
  clear hP hE
  generalize (E : Int) = Ez at *
  go_enter Tryd.func3, Tryd.ntmps3
  go_wp2_with (first
    | (go_at_call 9; refine HP.out.mono ?_; rintro e w1 ⟨rfl, hb⟩; have HB1 := Lib.hid hb; clear hb HP)
    | (go_at_call 10; refine (HA.out _).mono ?_; rintro e w3 ⟨rfl, hb⟩; have HB3 := Lib.hid (HB1.out.trans (hb.mono HB1.out.size)); clear hb HA))
  go_ret
  exact ⟨rfl, HB3.out⟩
set_option maxHeartbeats 4000000 in
set_option maxRecDepth 100000 in
theorem SegBack_yes62 (z : Nat) (hz : z < 256) (s : ByteArray) (hs : s.size ≤ 65533) (Ψ : Option Addr → Nat → Nat → World → Prop) (w : World)
    (hΨ : ∀ p n c x x', Ψ p n c x → Below x.heap.size x x' → Ψ p n c x')
    (hP : Calls Tryd.prog 9 #[.int .i64 z, .string s] w fun e w' => ∃ p n c, e = .returned (.tuple #[.iface 62 (.agg #[.slice p n c]), .int .i64 0]) ∧ Ψ p n c w' ∧ Below w.heap.size w w')
    (hB : ∀ p n c x, Ψ p n c x → Calls Tryd.prog 11 #[.iface 62 (.agg #[.slice p n c])] x fun e w' => e = .returned (.tuple #[.string ⟨(wbytes z s).toArray⟩, .int .i64 0]) ∧ Below x.heap.size x w')
    (hC : ∀ p n c x, Ψ p n c x → Calls Tryd.prog 105 #[.agg #[.slice p n c]] x fun e w' => e = .returned (.int .i64 z) ∧ Below x.heap.size x w') :
    Calls Tryd.prog 3 #[.int .i64 z, .string s] w fun e w' => e = .returned (.bool true) ∧ Below w.heap.size w w' := by
  have HP := Lib.hid hP
  have HB := Lib.hid hB
  have HC := Lib.hid hC
  have HK := Lib.hid hΨ
  have HA := Lib.hid awake_any
  have HM := Lib.hid (fun v w => meth62 v w)
  rw [back_text z hz s hs] at HB
  have hN : s.size + 2 < 65536 := by omega
  have e1 : ((s.size : Int) + 2).tdiv 256 = (((s.size + 2) / 256 : Nat) : Int) := rfl
  have e2 : ((s.size : Int) + 2).tmod 256 = (((s.size + 2) % 256 : Nat) : Int) := rfl
  have q1 : (s.size + 2) / 256 < 256 := by omega
  have q2 : (s.size + 2) % 256 < 256 := by omega
  have hl1 : ¬ 9223372036854775807 < (s.size : Int) + 2 := by omega
  have HCV := Lib.hid fun W => conv_three W z ((s.size + 2) / 256) ((s.size + 2) % 256) hz q1 q2
  generalize (s.size + 2) / 256 = a1 at *
  generalize (s.size + 2) % 256 = a2 at *
  have hX : ((⟨#[255]⟩ : ByteArray) ++ ⟨#[z.toUInt8, a1.toUInt8, a2.toUInt8]⟩).size = 4 := rfl
  have HXX := Lib.hid hX
  clear hP hB hC hΨ hN hX
  go_enter Tryd.func3, Tryd.ntmps3
  go_upto_region 6 with (first
    | (go_at_call 9; refine HP.out.mono ?_; rintro e w1 ⟨p, n, c, rfl, hp, hb⟩; have P1 := Lib.hid hp; have HB1 := Lib.hid hb; clear hp hb HP)
    | (go_at_call 11; refine (HB.out p n c _ P1.out).mono ?_; rintro e w2 ⟨rfl, hb⟩; have P2 := Lib.hid (HK.out _ _ _ _ _ P1.out hb); have HB2 := Lib.hid (HB1.out.trans (hb.mono HB1.out.size)); clear hb HB))
  have hm := fun w => HM.out (.agg #[.slice p n c]) w
  have hl2 : ¬ 9223372036854775807 < (4 : Int) + (s.size : Int) := by omega
  have hl3 : ¬ 9223372036854775807 < (1 : Int) + 3 := by omega
  generalize hXA : ((⟨#[255]⟩ : ByteArray) ++ ⟨#[z.toUInt8, a1.toUInt8, a2.toUInt8]⟩) = X at *
  have HXA := Lib.hid hXA
  have hxs : X.size = 4 := HXX.out
  go_wp2_with (first
    | (go_at_call 10; refine (HA.out _).mono ?_; rintro e w3 ⟨rfl, hb⟩; have P3 := Lib.hid (HK.out _ _ _ _ _ P2.out hb); have HB3 := Lib.hid (HB2.out.trans (hb.mono HB2.out.size)); clear hb HA)
    | (go_at_call 105; refine (HC.out p n c _ P3.out).mono ?_; rintro e w4 ⟨rfl, hb⟩; have HB4 := Lib.hid (HB3.out.trans (hb.mono HB3.out.size)); have hcv := HCV.out w4; clear hb HC))
  go_ret
  exact ⟨rfl, HB4.out.alloc HB4.out.size _⟩
set_option maxHeartbeats 4000000 in
set_option maxRecDepth 100000 in
theorem SegBack_yes70 (z : Nat) (hz : z < 256) (s : ByteArray) (hs : s.size ≤ 65533) (Ψ : Option Addr → Nat → Nat → World → Prop) (w : World)
    (hΨ : ∀ p n c x x', Ψ p n c x → Below x.heap.size x x' → Ψ p n c x')
    (hP : Calls Tryd.prog 9 #[.int .i64 z, .string s] w fun e w' => ∃ p n c, e = .returned (.tuple #[.iface 70 (.agg #[.slice p n c]), .int .i64 0]) ∧ Ψ p n c w' ∧ Below w.heap.size w w')
    (hB : ∀ p n c x, Ψ p n c x → Calls Tryd.prog 11 #[.iface 70 (.agg #[.slice p n c])] x fun e w' => e = .returned (.tuple #[.string ⟨(wbytes z s).toArray⟩, .int .i64 0]) ∧ Below x.heap.size x w')
    (hC : ∀ p n c x, Ψ p n c x → Calls Tryd.prog 106 #[.agg #[.slice p n c]] x fun e w' => e = .returned (.int .i64 z) ∧ Below x.heap.size x w') :
    Calls Tryd.prog 3 #[.int .i64 z, .string s] w fun e w' => e = .returned (.bool true) ∧ Below w.heap.size w w' := by
  have HP := Lib.hid hP
  have HB := Lib.hid hB
  have HC := Lib.hid hC
  have HK := Lib.hid hΨ
  have HA := Lib.hid awake_any
  have HM := Lib.hid (fun v w => meth70 v w)
  rw [back_text z hz s hs] at HB
  have hN : s.size + 2 < 65536 := by omega
  have e1 : ((s.size : Int) + 2).tdiv 256 = (((s.size + 2) / 256 : Nat) : Int) := rfl
  have e2 : ((s.size : Int) + 2).tmod 256 = (((s.size + 2) % 256 : Nat) : Int) := rfl
  have q1 : (s.size + 2) / 256 < 256 := by omega
  have q2 : (s.size + 2) % 256 < 256 := by omega
  have hl1 : ¬ 9223372036854775807 < (s.size : Int) + 2 := by omega
  have HCV := Lib.hid fun W => conv_three W z ((s.size + 2) / 256) ((s.size + 2) % 256) hz q1 q2
  generalize (s.size + 2) / 256 = a1 at *
  generalize (s.size + 2) % 256 = a2 at *
  have hX : ((⟨#[255]⟩ : ByteArray) ++ ⟨#[z.toUInt8, a1.toUInt8, a2.toUInt8]⟩).size = 4 := rfl
  have HXX := Lib.hid hX
  clear hP hB hC hΨ hN hX
  go_enter Tryd.func3, Tryd.ntmps3
  go_upto_region 6 with (first
    | (go_at_call 9; refine HP.out.mono ?_; rintro e w1 ⟨p, n, c, rfl, hp, hb⟩; have P1 := Lib.hid hp; have HB1 := Lib.hid hb; clear hp hb HP)
    | (go_at_call 11; refine (HB.out p n c _ P1.out).mono ?_; rintro e w2 ⟨rfl, hb⟩; have P2 := Lib.hid (HK.out _ _ _ _ _ P1.out hb); have HB2 := Lib.hid (HB1.out.trans (hb.mono HB1.out.size)); clear hb HB))
  have hm := fun w => HM.out (.agg #[.slice p n c]) w
  have hl2 : ¬ 9223372036854775807 < (4 : Int) + (s.size : Int) := by omega
  have hl3 : ¬ 9223372036854775807 < (1 : Int) + 3 := by omega
  generalize hXA : ((⟨#[255]⟩ : ByteArray) ++ ⟨#[z.toUInt8, a1.toUInt8, a2.toUInt8]⟩) = X at *
  have HXA := Lib.hid hXA
  have hxs : X.size = 4 := HXX.out
  go_wp2_with (first
    | (go_at_call 10; refine (HA.out _).mono ?_; rintro e w3 ⟨rfl, hb⟩; have P3 := Lib.hid (HK.out _ _ _ _ _ P2.out hb); have HB3 := Lib.hid (HB2.out.trans (hb.mono HB2.out.size)); clear hb HA)
    | (go_at_call 106; refine (HC.out p n c _ P3.out).mono ?_; rintro e w4 ⟨rfl, hb⟩; have HB4 := Lib.hid (HB3.out.trans (hb.mono HB3.out.size)); have hcv := HCV.out w4; clear hb HC))
  go_ret
  exact ⟨rfl, HB4.out.alloc HB4.out.size _⟩
set_option maxHeartbeats 4000000 in
set_option maxRecDepth 100000 in
theorem SegBack_yes44 (z : Nat) (hz : z < 256) (s : ByteArray) (hs : s.size ≤ 65533) (f t h : Int) (Ψ : Option Addr → Nat → Nat → World → Prop) (w : World)
    (hΨ : ∀ p n c x x', Ψ p n c x → Below x.heap.size x x' → Ψ p n c x')
    (hP : Calls Tryd.prog 9 #[.int .i64 z, .string s] w fun e w' => ∃ p n c, e = .returned (.tuple #[.iface 44 (.agg #[.int .i64 f, .int .i64 t, .int .i64 h, .slice p n c]), .int .i64 0]) ∧ Ψ p n c w' ∧ Below w.heap.size w w')
    (hB : ∀ p n c x, Ψ p n c x → Calls Tryd.prog 11 #[.iface 44 (.agg #[.int .i64 f, .int .i64 t, .int .i64 h, .slice p n c])] x fun e w' => e = .returned (.tuple #[.string ⟨(wbytes z s).toArray⟩, .int .i64 0]) ∧ Below x.heap.size x w')
    (hC : ∀ p n c x, Ψ p n c x → Calls Tryd.prog 102 #[.agg #[.int .i64 f, .int .i64 t, .int .i64 h, .slice p n c]] x fun e w' => e = .returned (.int .i64 z) ∧ Below x.heap.size x w') :
    Calls Tryd.prog 3 #[.int .i64 z, .string s] w fun e w' => e = .returned (.bool true) ∧ Below w.heap.size w w' := by
  have HP := Lib.hid hP
  have HB := Lib.hid hB
  have HC := Lib.hid hC
  have HK := Lib.hid hΨ
  have HA := Lib.hid awake_any
  have HM := Lib.hid (fun v w => meth44 v w)
  rw [back_text z hz s hs] at HB
  have hN : s.size + 2 < 65536 := by omega
  have e1 : ((s.size : Int) + 2).tdiv 256 = (((s.size + 2) / 256 : Nat) : Int) := rfl
  have e2 : ((s.size : Int) + 2).tmod 256 = (((s.size + 2) % 256 : Nat) : Int) := rfl
  have q1 : (s.size + 2) / 256 < 256 := by omega
  have q2 : (s.size + 2) % 256 < 256 := by omega
  have hl1 : ¬ 9223372036854775807 < (s.size : Int) + 2 := by omega
  have HCV := Lib.hid fun W => conv_three W z ((s.size + 2) / 256) ((s.size + 2) % 256) hz q1 q2
  generalize (s.size + 2) / 256 = a1 at *
  generalize (s.size + 2) % 256 = a2 at *
  have hX : ((⟨#[255]⟩ : ByteArray) ++ ⟨#[z.toUInt8, a1.toUInt8, a2.toUInt8]⟩).size = 4 := rfl
  have HXX := Lib.hid hX
  clear hP hB hC hΨ hN hX
  go_enter Tryd.func3, Tryd.ntmps3
  go_upto_region 6 with (first
    | (go_at_call 9; refine HP.out.mono ?_; rintro e w1 ⟨p, n, c, rfl, hp, hb⟩; have P1 := Lib.hid hp; have HB1 := Lib.hid hb; clear hp hb HP)
    | (go_at_call 11; refine (HB.out p n c _ P1.out).mono ?_; rintro e w2 ⟨rfl, hb⟩; have P2 := Lib.hid (HK.out _ _ _ _ _ P1.out hb); have HB2 := Lib.hid (HB1.out.trans (hb.mono HB1.out.size)); clear hb HB))
  have hm := fun w => HM.out (.agg #[.int .i64 f, .int .i64 t, .int .i64 h, .slice p n c]) w
  have hl2 : ¬ 9223372036854775807 < (4 : Int) + (s.size : Int) := by omega
  have hl3 : ¬ 9223372036854775807 < (1 : Int) + 3 := by omega
  generalize hXA : ((⟨#[255]⟩ : ByteArray) ++ ⟨#[z.toUInt8, a1.toUInt8, a2.toUInt8]⟩) = X at *
  have HXA := Lib.hid hXA
  have hxs : X.size = 4 := HXX.out
  go_wp2_with (first
    | (go_at_call 10; refine (HA.out _).mono ?_; rintro e w3 ⟨rfl, hb⟩; have P3 := Lib.hid (HK.out _ _ _ _ _ P2.out hb); have HB3 := Lib.hid (HB2.out.trans (hb.mono HB2.out.size)); clear hb HA)
    | (go_at_call 102; refine (HC.out p n c _ P3.out).mono ?_; rintro e w4 ⟨rfl, hb⟩; have HB4 := Lib.hid (HB3.out.trans (hb.mono HB3.out.size)); have hcv := HCV.out w4; clear hb HC))
  go_ret
  exact ⟨rfl, HB4.out.alloc HB4.out.size _⟩
/-! SegBack answers true at every code and every body: its walk, the other kinds. -/
set_option maxHeartbeats 4000000 in
set_option maxRecDepth 100000 in
theorem SegBack_yes49 (z : Nat) (hz : z < 256) (s : ByteArray) (hs : s.size ≤ 65533) (f t h u : Int) (Ψ : Option Addr → Nat → Nat → World → Prop) (w : World)
    (hΨ : ∀ p n c x x', Ψ p n c x → Below x.heap.size x x' → Ψ p n c x')
    (hP : Calls Tryd.prog 9 #[.int .i64 z, .string s] w fun e w' => ∃ p n c, e = .returned (.tuple #[.iface 49 (.agg #[.slice p n c, .int .i64 f, .int .i64 t, .int .i64 h, .int .i64 u]), .int .i64 0]) ∧ Ψ p n c w' ∧ Below w.heap.size w w')
    (hB : ∀ p n c x, Ψ p n c x → Calls Tryd.prog 11 #[.iface 49 (.agg #[.slice p n c, .int .i64 f, .int .i64 t, .int .i64 h, .int .i64 u])] x fun e w' => e = .returned (.tuple #[.string ⟨(wbytes z s).toArray⟩, .int .i64 0]) ∧ Below x.heap.size x w')
    (hC : ∀ p n c x, Ψ p n c x → Calls Tryd.prog 103 #[.agg #[.slice p n c, .int .i64 f, .int .i64 t, .int .i64 h, .int .i64 u]] x fun e w' => e = .returned (.int .i64 z) ∧ Below x.heap.size x w') :
    Calls Tryd.prog 3 #[.int .i64 z, .string s] w fun e w' => e = .returned (.bool true) ∧ Below w.heap.size w w' := by
  have HP := Lib.hid hP
  have HB := Lib.hid hB
  have HC := Lib.hid hC
  have HK := Lib.hid hΨ
  have HA := Lib.hid awake_any
  have HM := Lib.hid (fun v w => meth49 v w)
  rw [back_text z hz s hs] at HB
  have hN : s.size + 2 < 65536 := by omega
  have e1 : ((s.size : Int) + 2).tdiv 256 = (((s.size + 2) / 256 : Nat) : Int) := rfl
  have e2 : ((s.size : Int) + 2).tmod 256 = (((s.size + 2) % 256 : Nat) : Int) := rfl
  have q1 : (s.size + 2) / 256 < 256 := by omega
  have q2 : (s.size + 2) % 256 < 256 := by omega
  have hl1 : ¬ 9223372036854775807 < (s.size : Int) + 2 := by omega
  have HCV := Lib.hid fun W => conv_three W z ((s.size + 2) / 256) ((s.size + 2) % 256) hz q1 q2
  generalize (s.size + 2) / 256 = a1 at *
  generalize (s.size + 2) % 256 = a2 at *
  have hX : ((⟨#[255]⟩ : ByteArray) ++ ⟨#[z.toUInt8, a1.toUInt8, a2.toUInt8]⟩).size = 4 := rfl
  have HXX := Lib.hid hX
  clear hP hB hC hΨ hN hX
  go_enter Tryd.func3, Tryd.ntmps3
  go_upto_region 6 with (first
    | (go_at_call 9; refine HP.out.mono ?_; rintro e w1 ⟨p, n, c, rfl, hp, hb⟩; have P1 := Lib.hid hp; have HB1 := Lib.hid hb; clear hp hb HP)
    | (go_at_call 11; refine (HB.out p n c _ P1.out).mono ?_; rintro e w2 ⟨rfl, hb⟩; have P2 := Lib.hid (HK.out _ _ _ _ _ P1.out hb); have HB2 := Lib.hid (HB1.out.trans (hb.mono HB1.out.size)); clear hb HB))
  have hm := fun w => HM.out (.agg #[.slice p n c, .int .i64 f, .int .i64 t, .int .i64 h, .int .i64 u]) w
  have hl2 : ¬ 9223372036854775807 < (4 : Int) + (s.size : Int) := by omega
  have hl3 : ¬ 9223372036854775807 < (1 : Int) + 3 := by omega
  generalize hXA : ((⟨#[255]⟩ : ByteArray) ++ ⟨#[z.toUInt8, a1.toUInt8, a2.toUInt8]⟩) = X at *
  have HXA := Lib.hid hXA
  have hxs : X.size = 4 := HXX.out
  go_wp2_with (first
    | (go_at_call 10; refine (HA.out _).mono ?_; rintro e w3 ⟨rfl, hb⟩; have P3 := Lib.hid (HK.out _ _ _ _ _ P2.out hb); have HB3 := Lib.hid (HB2.out.trans (hb.mono HB2.out.size)); clear hb HA)
    | (go_at_call 103; refine (HC.out p n c _ P3.out).mono ?_; rintro e w4 ⟨rfl, hb⟩; have HB4 := Lib.hid (HB3.out.trans (hb.mono HB3.out.size)); have hcv := HCV.out w4; clear hb HC))
  go_ret
  exact ⟨rfl, HB4.out.alloc HB4.out.size _⟩
set_option maxHeartbeats 4000000 in
set_option maxRecDepth 100000 in
theorem SegBack_yes98 (z : Nat) (hz : z < 256) (s : ByteArray) (hs : s.size ≤ 65533) (f : Int) (y : ByteArray) (Ψ : Option Addr → Nat → Nat → World → Prop) (w : World)
    (hΨ : ∀ p n c x x', Ψ p n c x → Below x.heap.size x x' → Ψ p n c x')
    (hP : Calls Tryd.prog 9 #[.int .i64 z, .string s] w fun e w' => ∃ p n c, e = .returned (.tuple #[.iface 98 (.agg #[.int .i64 f, .string y]), .int .i64 0]) ∧ Ψ p n c w' ∧ Below w.heap.size w w')
    (hB : ∀ p n c x, Ψ p n c x → Calls Tryd.prog 11 #[.iface 98 (.agg #[.int .i64 f, .string y])] x fun e w' => e = .returned (.tuple #[.string ⟨(wbytes z s).toArray⟩, .int .i64 0]) ∧ Below x.heap.size x w')
    (hC : ∀ p n c x, Ψ p n c x → Calls Tryd.prog 110 #[.agg #[.int .i64 f, .string y]] x fun e w' => e = .returned (.int .i64 z) ∧ Below x.heap.size x w') :
    Calls Tryd.prog 3 #[.int .i64 z, .string s] w fun e w' => e = .returned (.bool true) ∧ Below w.heap.size w w' := by
  have HP := Lib.hid hP
  have HB := Lib.hid hB
  have HC := Lib.hid hC
  have HK := Lib.hid hΨ
  have HA := Lib.hid awake_any
  have HM := Lib.hid (fun v w => meth98 v w)
  rw [back_text z hz s hs] at HB
  have hN : s.size + 2 < 65536 := by omega
  have e1 : ((s.size : Int) + 2).tdiv 256 = (((s.size + 2) / 256 : Nat) : Int) := rfl
  have e2 : ((s.size : Int) + 2).tmod 256 = (((s.size + 2) % 256 : Nat) : Int) := rfl
  have q1 : (s.size + 2) / 256 < 256 := by omega
  have q2 : (s.size + 2) % 256 < 256 := by omega
  have hl1 : ¬ 9223372036854775807 < (s.size : Int) + 2 := by omega
  have HCV := Lib.hid fun W => conv_three W z ((s.size + 2) / 256) ((s.size + 2) % 256) hz q1 q2
  generalize (s.size + 2) / 256 = a1 at *
  generalize (s.size + 2) % 256 = a2 at *
  have hX : ((⟨#[255]⟩ : ByteArray) ++ ⟨#[z.toUInt8, a1.toUInt8, a2.toUInt8]⟩).size = 4 := rfl
  have HXX := Lib.hid hX
  clear hP hB hC hΨ hN hX
  go_enter Tryd.func3, Tryd.ntmps3
  go_upto_region 6 with (first
    | (go_at_call 9; refine HP.out.mono ?_; rintro e w1 ⟨p, n, c, rfl, hp, hb⟩; have P1 := Lib.hid hp; have HB1 := Lib.hid hb; clear hp hb HP)
    | (go_at_call 11; refine (HB.out p n c _ P1.out).mono ?_; rintro e w2 ⟨rfl, hb⟩; have P2 := Lib.hid (HK.out _ _ _ _ _ P1.out hb); have HB2 := Lib.hid (HB1.out.trans (hb.mono HB1.out.size)); clear hb HB))
  have hm := fun w => HM.out (.agg #[.int .i64 f, .string y]) w
  have hl2 : ¬ 9223372036854775807 < (4 : Int) + (s.size : Int) := by omega
  have hl3 : ¬ 9223372036854775807 < (1 : Int) + 3 := by omega
  generalize hXA : ((⟨#[255]⟩ : ByteArray) ++ ⟨#[z.toUInt8, a1.toUInt8, a2.toUInt8]⟩) = X at *
  have HXA := Lib.hid hXA
  have hxs : X.size = 4 := HXX.out
  go_wp2_with (first
    | (go_at_call 10; refine (HA.out _).mono ?_; rintro e w3 ⟨rfl, hb⟩; have P3 := Lib.hid (HK.out _ _ _ _ _ P2.out hb); have HB3 := Lib.hid (HB2.out.trans (hb.mono HB2.out.size)); clear hb HA)
    | (go_at_call 110; refine (HC.out p n c _ P3.out).mono ?_; rintro e w4 ⟨rfl, hb⟩; have HB4 := Lib.hid (HB3.out.trans (hb.mono HB3.out.size)); have hcv := HCV.out w4; clear hb HC))
  go_ret
  exact ⟨rfl, HB4.out.alloc HB4.out.size _⟩
set_option maxHeartbeats 4000000 in
set_option maxRecDepth 100000 in
theorem SegBack_yes76 (z : Nat) (hz : z < 256) (s : ByteArray) (hs : s.size ≤ 65533) (f : Int) (Ψ : Option Addr → Nat → Nat → World → Prop) (w : World)
    (hΨ : ∀ p n c x x', Ψ p n c x → Below x.heap.size x x' → Ψ p n c x')
    (hP : Calls Tryd.prog 9 #[.int .i64 z, .string s] w fun e w' => ∃ p n c, e = .returned (.tuple #[.iface 76 (.agg #[.int .i64 f]), .int .i64 0]) ∧ Ψ p n c w' ∧ Below w.heap.size w w')
    (hB : ∀ p n c x, Ψ p n c x → Calls Tryd.prog 11 #[.iface 76 (.agg #[.int .i64 f])] x fun e w' => e = .returned (.tuple #[.string ⟨(wbytes z s).toArray⟩, .int .i64 0]) ∧ Below x.heap.size x w')
    (hC : ∀ p n c x, Ψ p n c x → Calls Tryd.prog 107 #[.agg #[.int .i64 f]] x fun e w' => e = .returned (.int .i64 z) ∧ Below x.heap.size x w') :
    Calls Tryd.prog 3 #[.int .i64 z, .string s] w fun e w' => e = .returned (.bool true) ∧ Below w.heap.size w w' := by
  have HP := Lib.hid hP
  have HB := Lib.hid hB
  have HC := Lib.hid hC
  have HK := Lib.hid hΨ
  have HA := Lib.hid awake_any
  have HM := Lib.hid (fun v w => meth76 v w)
  rw [back_text z hz s hs] at HB
  have hN : s.size + 2 < 65536 := by omega
  have e1 : ((s.size : Int) + 2).tdiv 256 = (((s.size + 2) / 256 : Nat) : Int) := rfl
  have e2 : ((s.size : Int) + 2).tmod 256 = (((s.size + 2) % 256 : Nat) : Int) := rfl
  have q1 : (s.size + 2) / 256 < 256 := by omega
  have q2 : (s.size + 2) % 256 < 256 := by omega
  have hl1 : ¬ 9223372036854775807 < (s.size : Int) + 2 := by omega
  have HCV := Lib.hid fun W => conv_three W z ((s.size + 2) / 256) ((s.size + 2) % 256) hz q1 q2
  generalize (s.size + 2) / 256 = a1 at *
  generalize (s.size + 2) % 256 = a2 at *
  have hX : ((⟨#[255]⟩ : ByteArray) ++ ⟨#[z.toUInt8, a1.toUInt8, a2.toUInt8]⟩).size = 4 := rfl
  have HXX := Lib.hid hX
  clear hP hB hC hΨ hN hX
  go_enter Tryd.func3, Tryd.ntmps3
  go_upto_region 6 with (first
    | (go_at_call 9; refine HP.out.mono ?_; rintro e w1 ⟨p, n, c, rfl, hp, hb⟩; have P1 := Lib.hid hp; have HB1 := Lib.hid hb; clear hp hb HP)
    | (go_at_call 11; refine (HB.out p n c _ P1.out).mono ?_; rintro e w2 ⟨rfl, hb⟩; have P2 := Lib.hid (HK.out _ _ _ _ _ P1.out hb); have HB2 := Lib.hid (HB1.out.trans (hb.mono HB1.out.size)); clear hb HB))
  have hm := fun w => HM.out (.agg #[.int .i64 f]) w
  have hl2 : ¬ 9223372036854775807 < (4 : Int) + (s.size : Int) := by omega
  have hl3 : ¬ 9223372036854775807 < (1 : Int) + 3 := by omega
  generalize hXA : ((⟨#[255]⟩ : ByteArray) ++ ⟨#[z.toUInt8, a1.toUInt8, a2.toUInt8]⟩) = X at *
  have HXA := Lib.hid hXA
  have hxs : X.size = 4 := HXX.out
  go_wp2_with (first
    | (go_at_call 10; refine (HA.out _).mono ?_; rintro e w3 ⟨rfl, hb⟩; have P3 := Lib.hid (HK.out _ _ _ _ _ P2.out hb); have HB3 := Lib.hid (HB2.out.trans (hb.mono HB2.out.size)); clear hb HA)
    | (go_at_call 107; refine (HC.out p n c _ P3.out).mono ?_; rintro e w4 ⟨rfl, hb⟩; have HB4 := Lib.hid (HB3.out.trans (hb.mono HB3.out.size)); have hcv := HCV.out w4; clear hb HC))
  go_ret
  exact ⟨rfl, HB4.out.alloc HB4.out.size _⟩
/-! SegBack answers true at every code and every body. -/
theorem refu_kn {z : Int} (h : refu z = 0) : z = 196 ∨ z = 218 ∨ z = 219 ∨ z = 221 ∨ z = 254 ∨ (192 ≤ z ∧ z ≤ 194) ∨ (224 ≤ z ∧ z ≤ 239) := by
  unfold refu at h
  split at h
  · cases h
  · split at h
    · cases h
    · split at h
      · assumption
      · cases h
theorem rpk_max (s : ByteArray) (p : Nat × Nat) : (rscan s p).1.1.length ≤ 255 := by
  unfold rscan
  simp only []
  rw [rpk_length]
  have := rnum_one s p
  omega
theorem rps_max (s : ByteArray) (p : Nat × Nat) : (rframe s p).1.2.2.length ≤ 255 := by
  unfold rframe
  simp only []
  rw [rps_length]
  exact Nat.le_of_lt_succ (rnum_one s _)
theorem rlist_len {α : Type} (rd : Nat × Nat → α × (Nat × Nat)) (s : ByteArray) : ∀ f p, (rlist rd s f p).1.length ≤ f
  | 0, p => by simp [rlist]
  | f + 1, p => by
    by_cases hm : rmore s p = true
    · rw [rlist_yes hm]
      have := rlist_len rd s f (rd p).2
      simp only [List.length_cons]
      omega
    · rw [rlist_no (by simpa using hm)]
      simp
theorem rlist_mem {α : Type} (rd : Nat × Nat → α × (Nat × Nat)) (s : ByteArray) : ∀ f p x, x ∈ (rlist rd s f p).1 → ∃ q, x = (rd q).1
  | 0, p, x, h => by simp [rlist] at h
  | f + 1, p, x, h => by
    by_cases hm : rmore s p = true
    · rw [rlist_yes hm] at h
      rcases List.mem_cons.1 h with rfl | h
      · exact ⟨p, rfl⟩
      · exact rlist_mem rd s f _ x h
    · rw [rlist_no (by simpa using hm)] at h
      cases h
theorem rall_len {α : Type} (rd : Nat × Nat → α × (Nat × Nat)) (s : ByteArray) (p : Nat × Nat) : (rall rd s p).1.length ≤ s.size + 2 := by
  have := rlist_len rd s (s.size + 1) (rd p).2
  unfold rall
  simp only [List.length_cons]
  omega
theorem rall_mem {α : Type} (rd : Nat × Nat → α × (Nat × Nat)) (s : ByteArray) (p : Nat × Nat) (x : α) (h : x ∈ (rall rd s p).1) : ∃ q, x = (rd q).1 := by
  unfold rall at h
  rcases List.mem_cons.1 h with rfl | h
  · exact ⟨p, rfl⟩
  · exact rlist_mem rd s _ _ x h
theorem flat_take {α : Type} (g : α → List UInt8) (l : List α) (k : Nat) : ((l.take k).flatMap g).length ≤ (l.flatMap g).length := by
  have h : l.flatMap g = (l.take k).flatMap g ++ (l.drop k).flatMap g := by rw [← List.flatMap_append, List.take_append_drop]
  rw [h, List.length_append]
  omega
theorem whole_read {z : Int} {S T : ByteArray} {E : Int} (h : WholeQ z S True T E) (he : perr z S = 0) : T = ⟨(wbytes z S).toArray⟩ ∧ E = 0 := by
  rcases h with ⟨_, _, h1, h2⟩ | ⟨h1, _⟩
  · exact ⟨h1, h2⟩
  · exact absurd ⟨he, trivial⟩ h1
theorem bytes_read {z : Int} {S : ByteArray} {w w' : World} {e : Ending} (h : BytesP z S True w e w') (he : perr z S = 0) : e = .returned (.tuple #[.string ⟨(wbytes z S).toArray⟩, .int .i64 0]) ∧ Below w.heap.size w w' := by
  obtain ⟨T, E, h1, h2, h3⟩ := h
  obtain ⟨rfl, rfl⟩ := whole_read h2 he
  exact ⟨h1, h3⟩
theorem quant_range (s : ByteArray) (x : QT) (h : x ∈ (rall (rquant s) s (0, 0)).1.map qt) (i : Nat) : 0 ≤ x.2.2 i ∧ x.2.2 i < 65536 := by
  obtain ⟨y, hy, rfl⟩ := List.mem_map.1 h
  obtain ⟨q, rfl⟩ := rall_mem _ _ _ _ hy
  have := rent_lt s (1 + (rplace s q).1.1) (rplace s q).2 (fun h => by have := rplace_ok s q h; omega) (sp i)
  unfold qt rquant
  simp only []
  omega
theorem huff_range (s : ByteArray) (x : HT) (h : x ∈ (rall (rhuff s) s (0, 0)).1) (i : Nat) : x.2.2.1 i < 256 := by
  obtain ⟨q, rfl⟩ := rall_mem _ _ _ _ h
  unfold rhuff
  exact rcnt_lt s _ i
theorem body_eq {z : Int} {s : ByteArray} (h : perr z s = 0) {L : List UInt8} (hL : wbody (rseg z s).1 = L) : s = ⟨L.toArray⟩ := by
  rw [← hL, back_body z s h]
theorem body_len {s : ByteArray} {L : List UInt8} (h : s = ⟨L.toArray⟩) : L.length = s.size := by
  rw [h]
  show L.length = L.toArray.size
  simp
theorem rall_big {α : Type} (rd : Nat × Nat → α × (Nat × Nat)) (s : ByteArray) (hs : s.size ≤ 65533) : (rall rd s (0, 0)).1.length ≤ 1000000 := Nat.le_trans (rall_len rd s (0, 0)) (by omega)
theorem SegBack_any (z : Int) (s : ByteArray) (w : World) (hT : Tab w) : Calls Tryd.prog 3 #[.int .i64 z, .string s] w fun e w' => e = .returned (.bool true) ∧ Below w.heap.size w w' := by
  have hP := Parse_any z s w hT
  by_cases he : perr z s = 0
  · have hz : refu z = 0 := by
      unfold perr at he
      by_cases h : refu z = 0
      · exact h
      · rw [if_pos h] at he; exact absurd he h
    have hk := refu_kn hz
    have hs := perr_size he
    have hQ : Calls Tryd.prog 9 #[.int .i64 z, .string s] w fun e w' => ∃ V, e = .returned (.tuple #[V, .int .i64 0]) ∧ SegV w.heap.size (rseg z s).1 V w' ∧ Below w.heap.size w w' := hP.mono fun e w' h => by
      rcases h.1 with ⟨_, V, h1, h2⟩ | ⟨h1, _⟩
      · exact ⟨V, h1, h2, h.2⟩
      · exact absurd he h1
    clear hP
    by_cases h1 : z = 196
    · subst h1
      have hb := body_eq he (L := whuffs (rall (rhuff s) s (0, 0)).1) rfl
      have hbl := body_len hb
      have hl := rall_big (rhuff s) s hs
      refine SegBack_yes70 196 (by decide) s hs (fun p n c x => Tab x ∧ OwnR 74 19 cellsH w.heap.size (.slice p n c) (rall (rhuff s) s (0, 0)).1 x) w (fun p n c x x' h hb => ⟨h.1.on hb, h.2.on hb⟩) (hQ.mono ?_) ?_ ?_
      · rintro e w' ⟨V, rfl, ⟨v, rfl, ho⟩, hb⟩
        obtain ⟨p, n, c, rfl, _⟩ := ho.shape
        exact ⟨p, n, c, rfl, ⟨hT.on hb, ho⟩, hb⟩
      · rintro p n c x ⟨hTx, ho⟩
        refine (Bytes_huffs (.slice p n c) (rall (rhuff s) s (0, 0)).1 hl (fun k _ => ?_) (fun y hy i _ => huff_range s y hy i) x hTx (ho.view cellsH_size) True s hb ?_).mono fun e w' h => bytes_read h he
        · exact Nat.le_trans (flat_take whuff _ k) (by have : (List.flatMap whuff (rall (rhuff s) s (0, 0)).1).length = s.size := hbl
                                                       omega)
        · intro x' hT' hv'
          refine whole70 _ 196 s True (fun y => Tab y ∧ RowV 19 cellsH (.slice p n c) (rall (rhuff s) s (0, 0)).1 y) (fun y y' h hb => ⟨h.1.on hb, h.2.on cellsH_size hb⟩) (fun y h => h.1) (fun y => Code70 _ ⟨p, n, c, rfl⟩ y) ?_ x' ⟨hT', hv'⟩
          rintro B A y _ ⟨u, rfl, ho'⟩ ⟨_, hv⟩
          exact (alike_huffs _ _ _ _ hl y hv (ho'.view cellsH_size)).mono fun e w' ⟨b, a1, a2, a3⟩ => ⟨b, a1, by rw [a2]; exact ⟨fun _ => trivial, fun _ => rfl⟩, a3⟩
      · rintro p n c x _
        exact Code70 _ ⟨p, n, c, rfl⟩ x
    by_cases h2 : z = 218
    · subst h2
      have hb := body_eq he (L := wscan (rscan s (0, 0)).1.1 ((rscan s (0, 0)).1.2.1 : Nat) ((rscan s (0, 0)).1.2.2.1 : Nat) ((rscan s (0, 0)).1.2.2.2.1 : Nat) ((rscan s (0, 0)).1.2.2.2.2 : Nat)) rfl
      have hl : (rscan s (0, 0)).1.1.length ≤ 1000000 := Nat.le_trans (rpk_max s (0, 0)) (by decide)
      refine SegBack_yes49 218 (by decide) s hs ((rscan s (0, 0)).1.2.1 : Nat) ((rscan s (0, 0)).1.2.2.1 : Nat) ((rscan s (0, 0)).1.2.2.2.1 : Nat) ((rscan s (0, 0)).1.2.2.2.2 : Nat) (fun p n c x => Tab x ∧ OwnR 117 3 cellsK w.heap.size (.slice p n c) (rscan s (0, 0)).1.1 x) w (fun p n c x x' h hb => ⟨h.1.on hb, h.2.on hb⟩) (hQ.mono ?_) ?_ ?_
      · rintro e w' ⟨V, rfl, ⟨v, rfl, ho⟩, hb⟩
        obtain ⟨p, n, c, rfl, _⟩ := ho.shape
        exact ⟨p, n, c, rfl, ⟨hT.on hb, ho⟩, hb⟩
      · rintro p n c x ⟨hTx, ho⟩
        refine (Bytes_scan _ _ _ _ (.slice p n c) (rscan s (0, 0)).1.1 hl x hTx (ho.view cellsK_size) True s hb ?_).mono fun e w' h => bytes_read h he
        intro x' hT' hv'
        refine whole49 _ 218 s True (fun y => Tab y ∧ RowV 3 cellsK (.slice p n c) (rscan s (0, 0)).1.1 y) (fun y y' h hb => ⟨h.1.on hb, h.2.on cellsK_size hb⟩) (fun y h => h.1) (fun y => Code49 _ _ _ _ _ ⟨p, n, c, rfl⟩ y) ?_ x' ⟨hT', hv'⟩
        rintro B A y _ ⟨u, rfl, ho'⟩ ⟨_, hv⟩
        exact (alike_scan _ _ _ _ _ _ _ _ _ _ _ _ hl y hv (ho'.view cellsK_size) rfl rfl rfl rfl).mono fun e w' ⟨b, a1, a2, a3⟩ => ⟨b, a1, by rw [a2]; exact ⟨fun _ => trivial, fun _ => rfl⟩, a3⟩
      · rintro p n c x _
        exact Code49 _ _ _ _ _ ⟨p, n, c, rfl⟩ x
    by_cases h3 : z = 219
    · subst h3
      have hb := body_eq he (L := wquants ((rall (rquant s) s (0, 0)).1.map qt)) rfl
      have hbl := body_len hb
      have hl : ((rall (rquant s) s (0, 0)).1.map qt).length ≤ 1000000 := by rw [List.length_map]; exact rall_big (rquant s) s hs
      refine SegBack_yes62 219 (by decide) s hs (fun p n c x => Tab x ∧ OwnR 67 66 cellsQ w.heap.size (.slice p n c) ((rall (rquant s) s (0, 0)).1.map qt) x) w (fun p n c x x' h hb => ⟨h.1.on hb, h.2.on hb⟩) (hQ.mono ?_) ?_ ?_
      · rintro e w' ⟨V, rfl, ⟨v, rfl, ho⟩, hb⟩
        obtain ⟨p, n, c, rfl, _⟩ := ho.shape
        exact ⟨p, n, c, rfl, ⟨hT.on hb, ho⟩, hb⟩
      · rintro p n c x ⟨hTx, ho⟩
        refine (Bytes_quants (.slice p n c) ((rall (rquant s) s (0, 0)).1.map qt) hl (fun k _ => ?_) (fun y hy i _ => quant_range s y hy i) x hTx (ho.view cellsQ_size) True s hb ?_).mono fun e w' h => bytes_read h he
        · exact Nat.le_trans (flat_take wquant _ k) (by have : (List.flatMap wquant ((rall (rquant s) s (0, 0)).1.map qt)).length = s.size := hbl
                                                        omega)
        · intro x' hT' hv'
          refine whole62 _ 219 s True (fun y => Tab y ∧ RowV 66 cellsQ (.slice p n c) ((rall (rquant s) s (0, 0)).1.map qt) y) (fun y y' h hb => ⟨h.1.on hb, h.2.on cellsQ_size hb⟩) (fun y h => h.1) (fun y => Code62 _ ⟨p, n, c, rfl⟩ y) ?_ x' ⟨hT', hv'⟩
          rintro B A y _ ⟨u, rfl, ho'⟩ ⟨_, hv⟩
          exact (alike_quants _ _ _ _ hl y hv (ho'.view cellsQ_size)).mono fun e w' ⟨b, a1, a2, a3⟩ => ⟨b, a1, by rw [a2]; exact ⟨fun _ => trivial, fun _ => rfl⟩, a3⟩
      · rintro p n c x _
        exact Code62 _ ⟨p, n, c, rfl⟩ x
    by_cases h4 : z = 221
    · subst h4
      have hb := body_eq he (L := pbytes ((rnum s 2 (0, 0)).1 : Nat) 2) rfl
      refine SegBack_yes76 221 (by decide) s hs ((rnum s 2 (0, 0)).1 : Nat) (fun _ _ _ x => Tab x) w (fun p n c x x' h hb => h.on hb) (hQ.mono ?_) ?_ ?_
      · rintro e w' ⟨V, rfl, hv, hb⟩
        obtain rfl : V = _ := hv
        exact ⟨none, 0, 0, rfl, hT.on hb, hb⟩
      · intro _ _ _ x hTx
        refine (Bytes_restI _ x hTx True s hb ?_).mono fun e w' h => bytes_read h he
        intro x' hT'
        refine whole76 _ 221 s True (fun y => Tab y) (fun y y' h hb => h.on hb) (fun y h => h) (fun y => Code76 _ y) ?_ x' hT'
        rintro B A y _ hA _
        obtain rfl : A = _ := hA
        exact (alike_rest _ _ y).mono fun e w' ⟨b, a1, a2, a3⟩ => ⟨b, a1, by rw [a2]; exact ⟨fun _ => trivial, fun _ => rfl⟩, a3⟩
      · intro _ _ _ x _
        exact Code76 _ x
    by_cases h5 : 192 ≤ z ∧ z ≤ 194
    · have hr : (rseg z s).1 = PS.frame z ((rframe s (0, 0)).1.1 : Nat) ((rframe s (0, 0)).1.2.1 : Nat) (rframe s (0, 0)).1.2.2 := by
        unfold rseg
        rw [if_neg h1, if_neg h2, if_neg h3, if_neg h4, if_pos h5]
      have hb := body_eq he (L := wframe ((rframe s (0, 0)).1.1 : Nat) ((rframe s (0, 0)).1.2.1 : Nat) (rframe s (0, 0)).1.2.2) (by rw [hr]; rfl)
      have hl : (rframe s (0, 0)).1.2.2.length ≤ 1000000 := Nat.le_trans (rps_max s (0, 0)) (by decide)
      obtain ⟨zn, rfl⟩ := Int.eq_ofNat_of_zero_le (show 0 ≤ z by omega)
      rw [hr] at hQ
      refine SegBack_yes44 zn (by omega) s hs zn ((rframe s (0, 0)).1.1 : Nat) ((rframe s (0, 0)).1.2.1 : Nat) (fun p n c x => Tab x ∧ OwnR 80 4 cellsP w.heap.size (.slice p n c) (rframe s (0, 0)).1.2.2 x) w (fun p n c x x' h hb => ⟨h.1.on hb, h.2.on hb⟩) (hQ.mono ?_) ?_ ?_
      · rintro e w' ⟨V, rfl, ⟨v, rfl, ho⟩, hb⟩
        obtain ⟨p, n, c, rfl, _⟩ := ho.shape
        exact ⟨p, n, c, rfl, ⟨hT.on hb, ho⟩, hb⟩
      · rintro p n c x ⟨hTx, ho⟩
        refine (Bytes_frame _ _ _ (.slice p n c) (rframe s (0, 0)).1.2.2 hl x hTx (ho.view cellsP_size) True s hb ?_).mono fun e w' h => bytes_read h he
        intro x' hT' hv'
        refine whole44 _ zn s True (fun y => Tab y ∧ RowV 4 cellsP (.slice p n c) (rframe s (0, 0)).1.2.2 y) (fun y y' h hb => ⟨h.1.on hb, h.2.on cellsP_size hb⟩) (fun y h => h.1) (fun y => Code44 _ _ _ _ ⟨p, n, c, rfl⟩ y) ?_ x' ⟨hT', hv'⟩
        intro B A y _ hA hψ
        rw [hr] at hA
        obtain ⟨u, rfl, ho'⟩ := hA
        exact (alike_frame _ _ _ _ _ _ _ _ _ _ hl y hψ.2 (ho'.view cellsP_size)).mono fun e w' ⟨b, a1, a2, a3⟩ => ⟨b, a1, by rw [a2]; exact ⟨fun _ => trivial, fun _ => ⟨rfl, rfl, rfl, rfl⟩⟩, a3⟩
      · rintro p n c x _
        exact Code44 _ _ _ _ ⟨p, n, c, rfl⟩ x
    have hr : (rseg z s).1 = PS.plain z s := by
      unfold rseg
      rw [if_neg h1, if_neg h2, if_neg h3, if_neg h4, if_neg h5]
    obtain ⟨zn, rfl⟩ := Int.eq_ofNat_of_zero_le (show 0 ≤ z by omega)
    rw [hr] at hQ
    refine SegBack_yes98 zn (by omega) s hs zn s (fun _ _ _ x => Tab x) w (fun p n c x x' h hb => h.on hb) (hQ.mono ?_) ?_ ?_
    · rintro e w' ⟨V, rfl, hv, hb⟩
      obtain rfl : V = _ := hv
      exact ⟨none, 0, 0, rfl, hT.on hb, hb⟩
    · intro _ _ _ x hTx
      refine (Bytes_plain _ s (by omega) x hTx True ?_).mono fun e w' h => bytes_read h he
      intro x' hT'
      refine whole98 _ zn s True (fun y => Tab y) (fun y y' h hb => h.on hb) (fun y h => h) (fun y => Code98 _ _ y) ?_ x' hT'
      intro B A y _ hA _
      rw [hr] at hA
      obtain rfl : A = _ := hA
      exact (alike_plain _ _ _ _ y).mono fun e w' ⟨b, a1, a2, a3⟩ => ⟨b, a1, by rw [a2]; exact ⟨fun _ => trivial, fun _ => ⟨rfl, rfl⟩⟩, a3⟩
    · intro _ _ _ x _
      exact Code98 _ _ x
  · refine SegBack_no z s (perr z s) he w (hP.mono fun e w' h => ?_)
    rcases h.1 with ⟨h1, _⟩ | ⟨_, h2⟩
    · exact absurd h1 he
    · exact ⟨h2, h.2⟩
end Go.Proofs.YtfohgocdabgbgaaDoor
