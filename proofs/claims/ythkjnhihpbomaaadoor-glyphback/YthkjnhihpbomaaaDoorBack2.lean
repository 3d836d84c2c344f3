/- What was quoted is unquoted as it was, and is printable: the mathematics, whole. -/
import Derived.Test.YthkjnhihpbomaaaDoorBack
namespace Go.Proofs.YthkjnhihpbomaaaDoor
open Go.RowKit Go.Lib

theorem quote_toks (s : ByteArray) (n p : Nat) : textFrom (quoteItem s) s n p = (toks n (s.data.toList.drop p)).flatMap quoteT := by
  induction n generalizing p with
  | zero => rfl
  | succ n ih =>
    by_cases h : p < s.size
    · rw [textFrom_on _ s n p h, toks_on s n p h, List.flatMap_cons, ← ih]
      unfold quoteItem
      cases hb : bad s p <;> rfl
    · rw [textFrom_end _ s _ p h, toks_end s _ p h]; rfl
theorem badL_ge (c : UInt8) (l : List UInt8) (h : badL (c :: l) = true) : 128 ≤ c.toNat := by
  rcases Nat.lt_or_ge c.toNat 128 with hc | hc
  · exfalso
    unfold badL decB decodeN at h
    simp [hc] at h
    omega
  · exact hc
theorem toks_okT (n : Nat) (l : List UInt8) : ∀ t ∈ toks n l, okT t := by
  induction n generalizing l with
  | zero => intro t ht; simp [toks] at ht
  | succ n ih =>
    cases l with
    | nil => intro t ht; simp [toks] at ht
    | cons c l =>
      intro t ht
      rw [toks] at ht
      split at ht
      · rename_i hb
        rcases List.mem_cons.1 ht with rfl | h
        · exact badL_ge c l hb
        · exact ih _ t h
      · rcases List.mem_cons.1 ht with rfl | h
        · exact decB_ok _
        · exact ih _ t h
theorem unq_all (T : List UInt8) (ts : List (Sum Nat UInt8)) (ht : ∀ t ∈ ts, okT t) (r : List UInt8) (p f : Nat) (acc : List UInt8) (hf : ts.length < f) (hT : T.drop p = ts.flatMap quoteT ++ 34 :: r) :
    unqFrom ⟨T.toArray⟩ f p acc = (acc ++ enc ts, p + (ts.flatMap quoteT).length + 1, 0) := by
  induction ts generalizing p f acc with
  | nil =>
    cases f with
    | zero => simp at hf
    | succ f =>
      obtain ⟨a1, _, a3, _⟩ := byt_drop T p 34 r hT
      rw [unqFrom, if_neg (by omega), a1, if_pos (by decide)]
      simp [enc]
  | cons t ts ih =>
    cases f with
    | zero => simp at hf
    | succ f =>
      rw [List.flatMap_cons, List.append_assoc] at hT
      rw [unq_tok T t (ht t (by simp)) _ p f acc hT]
      have hT2 : T.drop (p + (quoteT t).length) = ts.flatMap quoteT ++ 34 :: r := by rw [← List.drop_drop, hT, List.drop_left]
      rw [ih (fun u hu => ht u (by simp [hu])) (p + (quoteT t).length) f (acc ++ encT t) (by simp at hf; omega) hT2, enc_cons, List.flatMap_cons, List.length_append, List.append_assoc, Nat.add_assoc p]
theorem quoteT_pos (t : Sum Nat UInt8) : 1 ≤ (quoteT t).length := by
  cases t with
  | inl r =>
    show 1 ≤ (quoteR r).length
    unfold quoteR
    repeat' split
    all_goals simp
  | inr c => simp [quoteT, quoteB]
theorem flat_len (ts : List (Sum Nat UInt8)) : ts.length ≤ (ts.flatMap quoteT).length := by
  induction ts with
  | nil => simp
  | cons t ts ih =>
    have := quoteT_pos t
    rw [List.flatMap_cons, List.length_append, List.length_cons]
    omega
theorem quote_tok (s : ByteArray) : quote s = 34 :: ((tok s).flatMap quoteT ++ [34]) := by
  have := quote_toks s s.size 0
  rw [List.drop_zero] at this
  unfold quote
  rw [this]
  rfl
theorem unq_quote (s : ByteArray) (b : List UInt8) : unq ⟨(quote s ++ b).toArray⟩ = (s.data.toList, (quote s).length, 0) := by
  have hq := quote_tok s
  have hT : (quote s ++ b).drop 1 = (tok s).flatMap quoteT ++ 34 :: b := by rw [hq]; simp
  have hT0 : (quote s ++ b).drop 0 = 34 :: ((tok s).flatMap quoteT ++ 34 :: b) := by rw [hq]; simp
  obtain ⟨a1, _, a3, _⟩ := byt_drop _ 0 34 _ hT0
  have hsz : (⟨(quote s ++ b).toArray⟩ : ByteArray).size = (quote s).length + b.length := by simp [ByteArray.size]
  have hl : (quote s).length = ((tok s).flatMap quoteT).length + 2 := by rw [hq]; simp
  have hfl := flat_len (tok s)
  rw [unq, if_neg (by omega), a1, if_neg (by decide), unq_all _ (tok s) (toks_okT _ _) b 1 _ [] (by omega) hT, hl]
  unfold tok
  rw [enc_toks _ _ (by rw [size_eq]; exact Nat.le_refl _)]
  simp only [List.nil_append, Prod.mk.injEq, true_and, and_true]
  omega

theorem hexDig_print (d : Nat) : 32 ≤ (hexDig d).toNat ∧ (hexDig d).toNat ≤ 126 ∨ 16 ≤ d := by
  rcases Nat.lt_or_ge d 16 with h | h
  · left
    match d, h with
    | 0, _ => decide | 1, _ => decide | 2, _ => decide | 3, _ => decide | 4, _ => decide | 5, _ => decide | 6, _ => decide | 7, _ => decide
    | 8, _ => decide | 9, _ => decide | 10, _ => decide | 11, _ => decide | 12, _ => decide | 13, _ => decide | 14, _ => decide | 15, _ => decide
    | (k + 16), h => omega
  · exact Or.inr h
def prt (b : UInt8) : Prop := 32 ≤ b.toNat ∧ b.toNat ≤ 126
theorem hex_print (u : Nat) : ∀ b ∈ hexDigits u, prt b := by
  intro b hb
  unfold hexDigits at hb
  rw [hexN_dig] at hb
  obtain ⟨d, hd, rfl⟩ := List.mem_map.1 hb
  have := digN_lt 7 u d hd
  rcases hexDig_print d with h | h
  · exact h
  · omega
theorem quoteT_print (t : Sum Nat UInt8) : ∀ b ∈ quoteT t, prt b := by
  cases t with
  | inr c =>
    intro b hb
    rcases List.mem_append.1 hb with h | h
    · simp at h; rcases h with rfl | rfl <;> exact ⟨by decide, by decide⟩
    · exact hex_print _ b h
  | inl r =>
    intro b hb
    replace hb : b ∈ quoteR r := hb
    unfold quoteR at hb
    split at hb
    · rename_i h
      simp at hb
      rcases hb with rfl | rfl
      · exact ⟨by decide, by decide⟩
      · rcases h with rfl | rfl <;> exact ⟨by decide, by decide⟩
    · split at hb
      · simp at hb; rcases hb with rfl | rfl <;> exact ⟨by decide, by decide⟩
      · split at hb
        · rename_i h
          simp at hb
          subst hb
          unfold prt
          simp; omega
        · rcases List.mem_append.1 hb with h | h
          · simp at h; rcases h with rfl | rfl | rfl <;> exact ⟨by decide, by decide⟩
          · rcases List.mem_append.1 h with h | h
            · exact hex_print _ b h
            · simp at h; subst h; exact ⟨by decide, by decide⟩
theorem quote_print (s : ByteArray) : ∀ b ∈ quote s, prt b := by
  intro b hb
  rw [quote_tok] at hb
  rcases List.mem_cons.1 hb with rfl | h
  · exact ⟨by decide, by decide⟩
  · rcases List.mem_append.1 h with h | h
    · obtain ⟨t, _, ht⟩ := List.mem_flatMap.1 h
      exact quoteT_print t b ht
    · simp at h; subst h; exact ⟨by decide, by decide⟩
theorem byt_print (s : ByteArray) (p : Nat) (hp : p < (quote s).length) : 32 ≤ byt ⟨(quote s).toArray⟩ p ∧ byt ⟨(quote s).toArray⟩ p ≤ 126 := by
  have hd := List.drop_eq_getElem_cons hp
  obtain ⟨a1, _, _, _⟩ := byt_drop (quote s) p _ _ hd
  rw [a1]
  exact quote_print s _ (List.getElem_mem hp)
theorem valid_quote (s : ByteArray) : valid ⟨(quote s).toArray⟩ = true := by
  have hb : ∀ p, p < (⟨(quote s).toArray⟩ : ByteArray).size → bad ⟨(quote s).toArray⟩ p = false := by
    intro p hp
    have hp' : p < (quote s).length := by simpa [ByteArray.size] using hp
    have h1 := byt_print s p hp'
    unfold byt at h1
    rw [Utf8W.get!_of_lt _ p hp] at h1
    have := decode_ascii _ p hp (by omega)
    unfold bad
    rw [this]
    simp
    omega
  have key : ∀ n p, validFrom ⟨(quote s).toArray⟩ n p = true := by
    intro n
    induction n with
    | zero => intro p; rfl
    | succ n ih =>
      intro p
      by_cases h : p < (⟨(quote s).toArray⟩ : ByteArray).size
      · rw [validFrom_on _ n p h, hb p h, ih]; rfl
      · rw [validFrom_end _ _ p h]
  exact key _ _
theorem quote_size (s : ByteArray) : (quote s).length ≤ 2 + 12 * s.size := by
  have key : ∀ n p, (textFrom (quoteItem s) s n p).length ≤ 12 * (s.size - p) := by
    intro n
    induction n with
    | zero => intro p; simp [textFrom]
    | succ n ih =>
      intro p
      by_cases h : p < s.size
      · rw [textFrom_on _ s n p h, List.length_append]
        have h1 := quoteItem_length s p
        have h2 := ih (p + (Utf8.decode s p).2)
        have h3 := width_pos s p h
        omega
      · rw [textFrom_end _ s _ p h]; simp
  have := key s.size 0
  simp [quote]
  omega
end Go.Proofs.YthkjnhihpbomaaaDoor
