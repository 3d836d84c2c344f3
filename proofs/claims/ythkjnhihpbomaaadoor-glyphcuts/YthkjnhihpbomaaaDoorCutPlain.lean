/- A cut text and the rest have as many runes as the whole: the mathematics. -/
import Derived.Test.YthkjnhihpbomaaaDoorTok2
namespace Go.Proofs.YthkjnhihpbomaaaDoor
open Go.RowKit Go.Lib

set_option maxRecDepth 100000 in
set_option maxHeartbeats 4000000 in
theorem badL_prefix (c : UInt8) (a b : List UInt8) (h : badL (c :: (a ++ b)) = true) : badL (c :: a) = true := by
  have e : ∀ l : List UInt8, badL (c :: l) = true ↔ ((decB (c :: l)).1 = 65533 ∧ (decB (c :: l)).2 = 1) := fun l => by simp [badL]
  rw [e] at h ⊢
  revert h
  match a with
  | [] =>
    simp only [List.nil_append]
    intro h
    have hc : 128 ≤ c.toNat := by
      rcases Nat.lt_or_ge c.toNat 128 with hc | hc
      · simp [decB, decodeN, hc] at h; omega
      · exact hc
    have : decB [c] = (65533, 1) := by
      simp [decB, decodeN]; omega
    rw [this]; exact ⟨rfl, rfl⟩
  | [x] =>
    simp only [decB, decodeN, List.cons_append, List.nil_append, List.length_cons, List.length_nil, List.getD_cons_zero, List.getD_cons_succ, List.getD_nil]
    generalize (b.getD 0 0).toNat = b0
    generalize (b.getD 1 0).toNat = b1
    generalize b.length = n
    repeat' split
    all_goals first | (exfalso; omega) | (intro h; exact h) | (intro _; exact ⟨rfl, rfl⟩) | (intro h; exact absurd h.2 (by simp))
  | [x, y] =>
    simp only [decB, decodeN, List.cons_append, List.nil_append, List.length_cons, List.length_nil, List.getD_cons_zero, List.getD_cons_succ, List.getD_nil]
    generalize (b.getD 0 0).toNat = b0
    generalize b.length = n
    repeat' split
    all_goals first | (exfalso; omega) | (intro h; exact h) | (intro _; exact ⟨rfl, rfl⟩) | (intro h; exact absurd h.2 (by simp))
  | x :: y :: z :: t =>
    simp only [decB, decodeN, List.cons_append, List.length_cons, List.getD_cons_zero, List.getD_cons_succ, List.length_append]
    repeat' split
    all_goals first | (exfalso; omega) | (intro h; exact h) | (intro _; exact ⟨rfl, rfl⟩) | (intro h; exact absurd h.2 (by simp))
theorem decB_take (l : List UInt8) (hne : l ≠ []) (m : Nat) (hm : (decB l).2 ≤ m) : decB (l.take m) = decB l := by
  have hl := decB_le l hne
  cases l with
  | nil => exact absurd rfl hne
  | cons c l =>
    cases m with
    | zero => omega
    | succ m =>
      cases hb : badL (c :: l)
      · have h1 := enc_dec (c :: l) (by simp) hb
        have hok := decB_ok (c :: l)
        have h2 : (c :: l).take (m + 1) = encodeRune ((decB (c :: l)).1 : Nat) ++ ((c :: l).take (m + 1)).drop (decB (c :: l)).2 := by
          rw [h1, List.drop_take]
          have h3 := List.take_append_drop (decB (c :: l)).2 ((c :: l).take (m + 1))
          rw [List.take_take, Nat.min_eq_left hm, List.drop_take] at h3
          exact h3.symm
        rw [h2, dec_enc _ _ hok]
        have h4 : (encodeRune ((decB (c :: l)).1 : Nat)).length = (decB (c :: l)).2 := by rw [h1, List.length_take]; omega
        rw [h4]
      · have hb2 : badL (c :: (l.take m ++ l.drop m)) = true := by rw [List.take_append_drop]; exact hb
        have hb3 := badL_prefix c (l.take m) (l.drop m) hb2
        rw [List.take_succ_cons]
        simp [badL] at hb hb3
        exact Prod.ext (hb3.1.trans hb.1.symm) (hb3.2.trans hb.2.symm)

/-- How many runes a list has. -/
def cntL (l : List UInt8) : Nat := (toks l.length l).length
theorem toks_fuel (n m : Nat) (l : List UInt8) (hn : l.length ≤ n) (hm : l.length ≤ m) : toks n l = toks m l := by
  have h1 := toks_enc (toks m l) (canon_toks m l hm) n (by rw [enc_toks m l hm]; exact hn)
  rw [enc_toks m l hm] at h1
  exact h1
theorem cntL_on (l : List UInt8) (hne : l ≠ []) : cntL l = cntL (l.drop (decB l).2) + 1 := by
  cases l with
  | nil => exact absurd rfl hne
  | cons c l =>
    have hl := decB_le (c :: l) (by simp)
    unfold cntL
    rw [List.length_cons, toks]
    split
    · rename_i hb
      have : (decB (c :: l)).2 = 1 := by simp [badL] at hb; exact hb.2
      rw [this]; rfl
    · rw [List.length_cons, toks_fuel l.length ((c :: l).drop (decB (c :: l)).2).length ((c :: l).drop (decB (c :: l)).2) (by rw [List.length_drop, List.length_cons]; omega) (Nat.le_refl _)]
theorem count_L (s : ByteArray) : count s = cntL s.data.toList := by
  rw [count_tok]; unfold tok cntL
  rw [size_eq]

theorem cut_sum (s : ByteArray) (n : Int) (f p : Nat) (hp : p ≤ s.size) :
    p ≤ cutFrom s n f p ∧ cutFrom s n f p ≤ s.size ∧ cntL (s.data.toList.drop p) = cntL ((s.data.toList.take (cutFrom s n f p)).drop p) + cntL (s.data.toList.drop (cutFrom s n f p)) := by
  have same : p ≤ p ∧ p ≤ s.size ∧ cntL (s.data.toList.drop p) = cntL ((s.data.toList.take p).drop p) + cntL (s.data.toList.drop p) := by
    refine ⟨Nat.le_refl _, hp, ?_⟩
    rw [show (s.data.toList.take p).drop p = [] from List.drop_eq_nil_of_le (by rw [List.length_take]; omega)]
    simp [cntL, toks]
  induction f generalizing p with
  | zero => exact same
  | succ f ih =>
    by_cases h : p < s.size
    · by_cases hn : ((p + (Utf8.decode s p).2 : Nat) : Int) ≤ n
      · rw [cutFrom_on s n f p h hn]
        have hw := width_le s p h
        have hw1 := width_pos s p h
        have same2 : p + (Utf8.decode s p).2 ≤ p + (Utf8.decode s p).2 ∧ p + (Utf8.decode s p).2 ≤ s.size ∧ cntL (s.data.toList.drop (p + (Utf8.decode s p).2)) = cntL ((s.data.toList.take (p + (Utf8.decode s p).2)).drop (p + (Utf8.decode s p).2)) + cntL (s.data.toList.drop (p + (Utf8.decode s p).2)) := by
          refine ⟨Nat.le_refl _, hw, ?_⟩
          rw [show (s.data.toList.take (p + (Utf8.decode s p).2)).drop (p + (Utf8.decode s p).2) = [] from List.drop_eq_nil_of_le (by rw [List.length_take]; omega)]
          simp [cntL, toks]
        obtain ⟨i1, i2, i3⟩ := ih (p + (Utf8.decode s p).2) hw same2
        generalize cutFrom s n f (p + (Utf8.decode s p).2) = e at i1 i2 i3
        refine ⟨by omega, i2, ?_⟩
        have hL : s.data.toList.length = s.size := (size_eq s).symm
        have hne : s.data.toList.drop p ≠ [] := by rw [drop_cons s p h]; simp
        have hd := decB_drop s p
        rw [hd] at i1 i3 hw hw1
        rw [cntL_on _ hne, List.drop_drop, i3]
        have hT : (s.data.toList.take e).drop p = (s.data.toList.drop p).take (e - p) := by rw [List.drop_take]
        have hdt := decB_take (s.data.toList.drop p) hne (e - p) (by omega)
        have hne2 : (s.data.toList.take e).drop p ≠ [] := by
          rw [hT]
          intro h0
          have := congrArg List.length h0
          rw [List.length_take, List.length_drop] at this
          simp at this
          omega
        rw [cntL_on ((s.data.toList.take e).drop p) hne2, hT, hdt, ← hT, List.drop_drop]
        omega
      · rw [cutFrom_off s n f p hn]; exact same
    · rw [cutFrom_end s n _ p h]; exact same

theorem cut_size (s : ByteArray) (n : Int) : (cut s n).size = cutEnd s n := by
  have := cutEnd_le s n
  unfold cut
  rw [ByteArray.size_extract]
  omega
theorem cut_bytes (s : ByteArray) (n : Int) : (cut s n).data.toList = s.data.toList.take (cutEnd s n) := by
  unfold cut
  rw [extract_data]
  simp
theorem cut_rest (s : ByteArray) (n : Int) : (s.extract (cutEnd s n) s.size).data.toList = s.data.toList.drop (cutEnd s n) := by
  rw [extract_data, List.take_of_length_le (by rw [List.length_drop, ← size_eq]; omega)]
theorem cut_count (s : ByteArray) (n : Int) : count (cut s n) + count (s.extract (cutEnd s n) s.size) = count s := by
  have h := (cut_sum s n s.size 0 (Nat.zero_le _)).2.2
  rw [List.drop_zero, List.drop_zero] at h
  rw [count_L, count_L, count_L, cut_bytes, cut_rest, h]
  rfl
theorem cutFrom_bound (s : ByteArray) (n : Int) (f p : Nat) (hp : p ≤ s.size) (hpn : (p : Int) ≤ max n 0) (hf : s.size ≤ p + f) : (cutFrom s n f p : Int) ≤ max n 0 ∧ (cutFrom s n f p = s.size ∨ n < 0 ∨ n - cutFrom s n f p < 4) := by
  induction f generalizing p with
  | zero => exact ⟨hpn, Or.inl (by simp [cutFrom]; omega)⟩
  | succ f ih =>
    by_cases h : p < s.size
    · have hw := width_le s p h
      have hw1 := width_pos s p h
      have hw4 : (Utf8.decode s p).2 ≤ 4 := by
        rw [Lib.decode_at]; unfold Lib.decodeN
        repeat' split
        all_goals simp only []
        all_goals omega
      by_cases hn : ((p + (Utf8.decode s p).2 : Nat) : Int) ≤ n
      · rw [cutFrom_on s n f p h hn]
        exact ih _ hw (by omega) (by omega)
      · rw [cutFrom_off s n f p hn]
        exact ⟨hpn, Or.inr (by omega)⟩
    · rw [cutFrom_end s n _ p h]
      exact ⟨hpn, Or.inl (by omega)⟩
theorem cutEnd_bound (s : ByteArray) (n : Int) : (cutEnd s n : Int) ≤ max n 0 ∧ (cutEnd s n = s.size ∨ n < 0 ∨ n - cutEnd s n < 4) :=
  cutFrom_bound s n s.size 0 (Nat.zero_le _) (by omega) (by omega)
end Go.Proofs.YthkjnhihpbomaaaDoor
