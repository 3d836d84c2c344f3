/- Texts as lists of runes and of bytes that are no text: there and back; a fold's fold. -/
import Derived.Test.YthkjnhihpbomaaaDoorTok
namespace Go.Proofs.YthkjnhihpbomaaaDoor
open Go.RowKit Go.Lib

def toks : Nat → List UInt8 → List (Sum Nat UInt8)
  | 0, _ => []
  | _ + 1, [] => []
  | n + 1, c :: l => if badL (c :: l) then .inr c :: toks n l else .inl (decB (c :: l)).1 :: toks n ((c :: l).drop (decB (c :: l)).2)
def encT : Sum Nat UInt8 → List UInt8
  | .inl r => encodeRune (r : Nat)
  | .inr c => [c]
def enc (ts : List (Sum Nat UInt8)) : List UInt8 := ts.flatMap encT
theorem enc_cons (t : Sum Nat UInt8) (ts : List (Sum Nat UInt8)) : enc (t :: ts) = encT t ++ enc ts := rfl

theorem decB_le (l : List UInt8) (h : l ≠ []) : 1 ≤ (decB l).2 ∧ (decB l).2 ≤ l.length := by
  have hl : 0 < l.length := List.length_pos_iff.2 h
  unfold decB decodeN
  repeat' split
  all_goals simp only []
  all_goals omega
theorem decB_ok (l : List UInt8) : okR (decB l).1 := by
  have h0 := (l.getD 0 0).toNat_lt
  unfold okR decB decodeN
  repeat' split
  all_goals simp only []
  all_goals omega

theorem enc_toks (n : Nat) (l : List UInt8) (h : l.length ≤ n) : enc (toks n l) = l := by
  induction n generalizing l with
  | zero =>
    have hl : l = [] := List.eq_nil_of_length_eq_zero (by omega)
    subst hl; rfl
  | succ n ih =>
    cases l with
    | nil => rfl
    | cons c l =>
      simp only [List.length_cons] at h
      rw [toks]
      split
      · rw [enc_cons, ih l (by omega)]; rfl
      · rename_i hb
        have hb : badL (c :: l) = false := by simpa using hb
        have hd := decB_le (c :: l) (by simp)
        rw [enc_cons, ih _ (by rw [List.length_drop, List.length_cons]; omega)]
        show encodeRune _ ++ _ = _
        rw [enc_dec (c :: l) (by simp) hb, List.take_append_drop]

def Canon : List (Sum Nat UInt8) → Prop
  | [] => True
  | .inl r :: ts => okR r ∧ Canon ts
  | .inr c :: ts => badL (c :: enc ts) = true ∧ Canon ts
theorem canon_toks (n : Nat) (l : List UInt8) (h : l.length ≤ n) : Canon (toks n l) := by
  induction n generalizing l with
  | zero => trivial
  | succ n ih =>
    cases l with
    | nil => trivial
    | cons c l =>
      simp only [List.length_cons] at h
      rw [toks]
      split
      · rename_i hb
        refine ⟨?_, ih l (by omega)⟩
        rw [enc_toks n l (by omega)]; exact hb
      · have hd := decB_le (c :: l) (by simp)
        exact ⟨decB_ok _, ih _ (by rw [List.length_drop, List.length_cons]; omega)⟩
theorem encT_pos (t : Sum Nat UInt8) : 1 ≤ (encT t).length := by
  cases t with
  | inl r => simp only [encT, encodeRune, List.length_map]; exact (encodeRuneZ_length _).1
  | inr c => simp [encT]
theorem toks_enc (ts : List (Sum Nat UInt8)) (hc : Canon ts) (n : Nat) (h : (enc ts).length ≤ n) : toks n (enc ts) = ts := by
  induction ts generalizing n with
  | nil => cases n <;> rfl
  | cons t ts ih =>
    rw [enc_cons, List.length_append] at h
    have hp := encT_pos t
    cases n with
    | zero => omega
    | succ n =>
      cases t with
      | inr c =>
        obtain ⟨hb, hc⟩ := hc
        show toks (n + 1) (c :: enc ts) = _
        rw [toks, if_pos hb, ih hc n (by simp [encT] at h; omega)]
      | inl r =>
        obtain ⟨hr, hc⟩ := hc
        have hd := dec_enc r (enc ts) hr
        have hl := enc_len r hr
        obtain ⟨b, bs, hbs⟩ : ∃ b bs, encodeRune (r : Nat) = b :: bs := by
          cases hx : encodeRune (r : Nat) with
          | nil => simp only [encT, hx] at hp; simp at hp
          | cons b bs => exact ⟨b, bs, rfl⟩
        have hnb : badL (encodeRune (r : Nat) ++ enc ts) = false := by
          unfold badL
          rw [hd]
          by_cases h3 : r = 65533
          · subst h3; rw [hl]; rfl
          · simp [h3]
        show toks (n + 1) (encodeRune (r : Nat) ++ enc ts) = _
        have hcons : encodeRune (r : Nat) ++ enc ts = b :: (bs ++ enc ts) := by rw [hbs]; rfl
        rw [hcons, toks, ← hcons, hnb, if_neg (by simp), hd]
        simp only [List.drop_left]
        rw [ih hc n (by simp only [encT] at h hp; omega)]

def foldT : Sum Nat UInt8 → Sum Nat UInt8
  | .inl r => .inl (foldR r)
  | .inr c => .inr c
theorem foldR_ok (r : Nat) (h : okR r) : okR (foldR r) := by
  unfold okR at *
  unfold foldR
  repeat' split
  all_goals omega
theorem foldR_twice (r : Nat) : foldR (foldR r) = foldR r := by
  unfold foldR
  repeat' split
  all_goals omega
theorem nameR_fold (r : Nat) : nameR (foldR r) = nameR r := by
  unfold nameR foldR
  rw [decide_eq_decide]
  repeat' split
  all_goals omega
theorem cpre_fold (ts : List (Sum Nat UInt8)) (hc : Canon ts) (n : Nat) : cpre n (enc (ts.map foldT)) = cpre n (enc ts) := by
  induction ts generalizing n with
  | nil => rfl
  | cons t ts ih =>
    cases t with
    | inl r => rw [List.map_cons, enc_cons, enc_cons]; show cpre n (encodeRune _ ++ _) = cpre n (encodeRune _ ++ _); rw [enc_head _ (foldR_ok r hc.1), enc_head _ hc.1]
    | inr c =>
      cases n with
      | zero => rfl
      | succ n =>
        rw [List.map_cons, enc_cons, enc_cons]
        show cpre (n + 1) (c :: enc (ts.map foldT)) = cpre (n + 1) (c :: enc ts)
        rw [cpre, cpre, ih hc.2 n]
theorem canon_fold (ts : List (Sum Nat UInt8)) (hc : Canon ts) : Canon (ts.map foldT) := by
  induction ts with
  | nil => trivial
  | cons t ts ih =>
    cases t with
    | inl r => exact ⟨foldR_ok r hc.1, ih hc.2⟩
    | inr c =>
      refine ⟨?_, ih hc.2⟩
      have hb := hc.1
      unfold badL at *
      rw [decB_cpre, cpre_fold ts hc.2 3, ← decB_cpre]
      exact hb

/-- A text's runes. -/
def tok (s : ByteArray) : List (Sum Nat UInt8) := toks s.size s.data.toList
theorem drop_cons (s : ByteArray) (p : Nat) (h : p < s.size) : s.data.toList.drop p = s.get! p :: s.data.toList.drop (p + 1) := by
  have h' : p < s.data.toList.length := by rw [← size_eq]; exact h
  rw [List.drop_eq_getElem_cons h', get_getD, List.getD, List.getElem?_eq_getElem h']
  rfl
theorem toks_on (s : ByteArray) (n p : Nat) (h : p < s.size) : toks (n + 1) (s.data.toList.drop p) = (if bad s p then .inr (s.get! p) else .inl (Utf8.decode s p).1) :: toks n (s.data.toList.drop (p + (Utf8.decode s p).2)) := by
  rw [badL_drop, decB_drop]
  have hd := drop_cons s p h
  rw [hd, toks]
  by_cases hb : badL (s.get! p :: s.data.toList.drop (p + 1)) = true
  · rw [if_pos hb, if_pos hb]
    have : (decB (s.get! p :: s.data.toList.drop (p + 1))).2 = 1 := by simp [badL] at hb; exact hb.2
    rw [this]
  · rw [if_neg hb, if_neg hb]
    rw [← hd, List.drop_drop]
theorem toks_end (s : ByteArray) (n p : Nat) (h : ¬ p < s.size) : toks n (s.data.toList.drop p) = [] := by
  rw [List.drop_eq_nil_of_le (by rw [← size_eq]; omega)]
  cases n <;> rfl

theorem fold_toks (s : ByteArray) (n p : Nat) : textFrom (foldItem s) s n p = enc ((toks n (s.data.toList.drop p)).map foldT) := by
  induction n generalizing p with
  | zero => rfl
  | succ n ih =>
    by_cases h : p < s.size
    · rw [textFrom_on _ s n p h, toks_on s n p h, List.map_cons, enc_cons, ← ih]
      unfold foldItem
      cases hb : bad s p <;> rfl
    · rw [textFrom_end _ s _ p h, toks_end s _ p h]; rfl
theorem cnt_toks (s : ByteArray) (n p : Nat) : cntFrom s n p = (toks n (s.data.toList.drop p)).length := by
  induction n generalizing p with
  | zero => rfl
  | succ n ih =>
    by_cases h : p < s.size
    · rw [cntFrom_on s n p h, toks_on s n p h, List.length_cons, ← ih]
    · rw [cntFrom_end s _ p h, toks_end s _ p h]; rfl
def isRune : Sum Nat UInt8 → Bool
  | .inl _ => true
  | .inr _ => false
theorem valid_toks (s : ByteArray) (n p : Nat) : validFrom s n p = (toks n (s.data.toList.drop p)).all isRune := by
  induction n generalizing p with
  | zero => rfl
  | succ n ih =>
    by_cases h : p < s.size
    · rw [validFrom_on s n p h, toks_on s n p h, List.all_cons, ← ih]
      cases hb : bad s p <;> rfl
    · rw [validFrom_end s _ p h, toks_end s _ p h]; rfl
def nameT : Sum Nat UInt8 → Bool
  | .inl r => nameR r
  | .inr _ => false
theorem name_toks (s : ByteArray) (n p k : Nat) : nameFrom s n p k = ((toks n (s.data.toList.drop p)).all nameT && decide (1 ≤ k + (toks n (s.data.toList.drop p)).length ∧ k + (toks n (s.data.toList.drop p)).length ≤ 24)) := by
  induction n generalizing p k with
  | zero => rfl
  | succ n ih =>
    by_cases h : p < s.size
    · rw [nameFrom_on s n p k h, toks_on s n p h, List.all_cons, ih, List.length_cons]
      have e1 : k + 1 + (toks n (s.data.toList.drop (p + (Utf8.decode s p).2))).length = k + ((toks n (s.data.toList.drop (p + (Utf8.decode s p).2))).length + 1) := by omega
      rw [e1]
      cases hb : bad s p
      · simp only [nameT, Bool.and_assoc]; rfl
      · have : (Utf8.decode s p).1 = 65533 := by simp [bad] at hb; exact hb.1
        rw [this]; rfl
    · rw [nameFrom_end s _ p k h, toks_end s _ p h]; rfl

theorem tok_canon (s : ByteArray) : Canon (tok s) := canon_toks _ _ (by rw [size_eq]; exact Nat.le_refl _)
theorem fold_tok (s : ByteArray) : fold s = enc ((tok s).map foldT) := by
  have := fold_toks s s.size 0
  rw [List.drop_zero] at this
  exact this
theorem count_tok (s : ByteArray) : count s = (tok s).length := by
  have := cnt_toks s s.size 0
  rw [List.drop_zero] at this
  exact this
theorem valid_tok (s : ByteArray) : valid s = (tok s).all isRune := by
  have := valid_toks s s.size 0
  rw [List.drop_zero] at this
  exact this
theorem name_tok (s : ByteArray) : name s = ((tok s).all nameT && decide (1 ≤ (tok s).length ∧ (tok s).length ≤ 24)) := by
  have := name_toks s s.size 0 0
  rw [List.drop_zero] at this
  simp only [Nat.zero_add] at this
  exact this
/-- The runes of a fold. -/
theorem tok_fold (s : ByteArray) : tok ⟨(fold s).toArray⟩ = (tok s).map foldT := by
  unfold tok
  rw [fold_tok]
  exact toks_enc _ (canon_fold _ (tok_canon s)) _ (by simp [ByteArray.size])
theorem map_fold_twice (ts : List (Sum Nat UInt8)) : (ts.map foldT).map foldT = ts.map foldT := by
  rw [List.map_map]
  apply List.map_congr_left
  intro t _
  cases t with
  | inl r => show Sum.inl _ = Sum.inl _; rw [foldR_twice]
  | inr c => rfl
theorem fold_fold (s : ByteArray) : fold ⟨(fold s).toArray⟩ = fold s := by
  rw [fold_tok ⟨(fold s).toArray⟩, tok_fold, map_fold_twice, ← fold_tok]
theorem count_fold (s : ByteArray) : count ⟨(fold s).toArray⟩ = count s := by
  rw [count_tok, tok_fold, List.length_map, count_tok]
theorem valid_fold (s : ByteArray) : valid ⟨(fold s).toArray⟩ = valid s := by
  rw [valid_tok, tok_fold, valid_tok, List.all_map]
  congr 1
  funext t
  cases t <;> rfl
theorem name_fold (s : ByteArray) : name ⟨(fold s).toArray⟩ = name s := by
  rw [name_tok, tok_fold, name_tok, List.all_map, List.length_map]
  congr 2
  funext t
  cases t with
  | inl r => exact nameR_fold r
  | inr c => rfl
theorem fold_size (s : ByteArray) : (fold s).length ≤ 4 * s.size := by
  have key : ∀ n p, (textFrom (foldItem s) s n p).length ≤ 4 * (s.size - p) := by
    intro n
    induction n with
    | zero => intro p; simp [textFrom]
    | succ n ih =>
      intro p
      by_cases h : p < s.size
      · rw [textFrom_on _ s n p h, List.length_append]
        have h1 := foldItem_length s p
        have h2 := ih (p + (Utf8.decode s p).2)
        have h3 := width_pos s p h
        omega
      · rw [textFrom_end _ s _ p h]; simp
  have := key s.size 0
  simpa [fold] using this
end Go.Proofs.YthkjnhihpbomaaaDoor
