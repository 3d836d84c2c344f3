/- What was quoted is unquoted as it was: the mathematics. -/
import Derived.Test.YthkjnhihpbomaaaDoorTok2
import Derived.Test.YthkjnhihpbomaaaDoorUnqPlain
namespace Go.Proofs.YthkjnhihpbomaaaDoor
open Go.RowKit Go.Lib

/-- A number's digits, as numbers. -/
def digN : Nat → Nat → List Nat
  | 0, u => [u % 16]
  | f + 1, u => if u < 16 then [u] else digN f (u / 16) ++ [u % 16]
theorem hexN_dig (f u : Nat) : hexN f u = (digN f u).map hexDig := by
  induction f generalizing u with
  | zero => rfl
  | succ f ih =>
    rw [hexN, digN]
    split
    · rfl
    · rw [ih, List.map_append]; rfl
theorem digN_lt (f u : Nat) : ∀ d ∈ digN f u, d < 16 := by
  induction f generalizing u with
  | zero => intro d hd; simp [digN] at hd; omega
  | succ f ih =>
    intro d hd
    rw [digN] at hd
    split at hd
    · simp at hd; omega
    · rcases List.mem_append.1 hd with h | h
      · exact ih _ d h
      · simp at h; omega
def valD (n : Nat) (ds : List Nat) : Nat := ds.foldl (fun n d => n * 16 + d) n
theorem valD_dig (f u n : Nat) (h : u < 16 ^ (f + 1)) : valD n (digN f u) = n * 16 ^ (digN f u).length + u := by
  induction f generalizing u n with
  | zero =>
    simp at h
    simp [digN, valD, Nat.mod_eq_of_lt h]
  | succ f ih =>
    rw [digN]
    split
    · simp [valD]
    · rw [Nat.pow_succ] at h
      have h1 := ih (u / 16) n (by omega)
      unfold valD at *
      rw [List.foldl_append, h1, List.length_append]
      simp only [List.foldl_cons, List.foldl_nil, List.length_cons, List.length_nil]
      rw [Nat.pow_add, ← Nat.mul_assoc, Nat.add_mul]
      simp only [Nat.zero_add, Nat.pow_one]
      omega
theorem digN_head (f u : Nat) (h : u < 16 ^ (f + 1)) (h0 : 0 < u) : ∃ d ds, digN f u = d :: ds ∧ 0 < d := by
  induction f generalizing u with
  | zero => simp at h; exact ⟨u % 16, [], rfl, by omega⟩
  | succ f ih =>
    rw [digN]
    split
    · exact ⟨u, [], rfl, h0⟩
    · rw [Nat.pow_succ] at h
      obtain ⟨d, ds, h1, h2⟩ := ih (u / 16) (by omega) (by omega)
      exact ⟨d, ds ++ [u % 16], by rw [h1]; rfl, h2⟩
theorem dig_ok (d : Nat) (h : d < 16) : digOk (hexDig d).toNat = true ∧ digV (hexDig d).toNat = d := by
  match d, h with
  | 0, _ => decide | 1, _ => decide | 2, _ => decide | 3, _ => decide | 4, _ => decide | 5, _ => decide | 6, _ => decide | 7, _ => decide
  | 8, _ => decide | 9, _ => decide | 10, _ => decide | 11, _ => decide | 12, _ => decide | 13, _ => decide | 14, _ => decide | 15, _ => decide
  | (k + 16), h => omega

theorem byt_drop (T : List UInt8) (p : Nat) (c : UInt8) (r : List UInt8) (h : T.drop p = c :: r) : byt ⟨T.toArray⟩ p = c.toNat ∧ (⟨T.toArray⟩ : ByteArray).get! p = c ∧ p < (⟨T.toArray⟩ : ByteArray).size ∧ T.drop (p + 1) = r := by
  have hp : p < T.length := by
    rcases Nat.lt_or_ge p T.length with h' | h'
    · exact h'
    · rw [List.drop_eq_nil_of_le h'] at h; cases h
  have hg : (⟨T.toArray⟩ : ByteArray).get! p = c := by
    rw [get_getD]
    have := List.drop_eq_getElem_cons hp
    rw [this] at h
    simp only [List.cons.injEq] at h
    simp [List.getD, List.getElem?_eq_getElem hp, h.1]
  refine ⟨by unfold byt; rw [hg], hg, by simpa [ByteArray.size] using hp, ?_⟩
  rw [← List.drop_drop, h]; rfl

theorem num_digits (T : List UInt8) (ds : List Nat) (x : UInt8) (r : List UInt8) (hx : digOk x.toNat = false) (g q n : Nat) (hg : ds.length ≤ g) (hd : ∀ d ∈ ds, d < 16) (hT : T.drop q = ds.map hexDig ++ x :: r) (h0 : 0 < n ∨ ds = [] ∨ ∃ d t, ds = d :: t ∧ 0 < d) :
    num ⟨T.toArray⟩ g q n = (valD n ds, q + ds.length) := by
  induction ds generalizing g q n with
  | nil =>
    obtain ⟨h1, _, h3, _⟩ := byt_drop T q x r hT
    cases g with
    | zero => rfl
    | succ g =>
      rw [num, if_neg (by rw [h1, hx]; simp)]
      rfl
  | cons d ds ih =>
    cases g with
    | zero => simp at hg
    | succ g =>
      obtain ⟨h1, _, h3, h4⟩ := byt_drop T q (hexDig d) (ds.map hexDig ++ x :: r) hT
      obtain ⟨k1, k2⟩ := dig_ok d (hd d (by simp))
      have hpos : n * 16 + d ≠ 0 := by
        rcases h0 with h | h | ⟨d', t, h, h'⟩
        · omega
        · cases h
        · simp at h; omega
      rw [num, h1, k1, k2, if_pos ⟨h3, rfl⟩, if_neg hpos, ih g (q + 1) (n * 16 + d) (by simp at hg; omega) (fun e he => hd e (by simp [he])) h4 (Or.inl (by omega))]
      simp [valD]; omega
theorem num_hex (T : List UInt8) (u : Nat) (hu : u < 16777216) (r : List UInt8) (q : Nat) (hT : T.drop q = hexDigits u ++ 125 :: r) : num ⟨T.toArray⟩ 6 q 0 = (u, q + (hexDigits u).length) := by
  have hl : (digN 7 u).length ≤ 6 := by
    have : ∀ f v, v < 16 ^ (f + 1) → ∀ k, (digN (f + k) v).length ≤ f + 1 := by
      intro f
      induction f with
      | zero => intro v hv k; cases k with
        | zero => simp [digN]
        | succ k => simp at hv; simp [digN, hv]
      | succ f ih =>
        intro v hv k
        rw [show f + 1 + k = (f + k) + 1 by omega, digN]
        split
        · simp
        · rw [Nat.pow_succ] at hv
          have := ih (v / 16) (by omega) k
          simp; omega
    exact this 5 u (by omega) 2
  have hlen : (hexDigits u).length = (digN 7 u).length := by unfold hexDigits; rw [hexN_dig, List.length_map]
  have hv := valD_dig 7 u 0 (by omega)
  rcases Nat.eq_zero_or_pos u with h0 | h0
  · subst h0
    have hh : hexDigits 0 = [48] := by decide
    rw [hh] at hT ⊢
    obtain ⟨h1, _, h3, _⟩ := byt_drop T q 48 (125 :: r) hT
    rw [num, h1, if_pos ⟨h3, by decide⟩, if_pos (by decide)]
    rfl
  · unfold hexDigits at hT
    rw [hexN_dig] at hT
    rw [num_digits T (digN 7 u) 125 r (by decide) 6 q 0 hl (digN_lt 7 u) hT (Or.inr (Or.inr (digN_head 7 u (by omega) h0))), hv, hlen]
    simp

def quoteT : Sum Nat UInt8 → List UInt8
  | .inl r => quoteR r
  | .inr c => quoteB c
def okT : Sum Nat UInt8 → Prop
  | .inl r => okR r
  | .inr c => 128 ≤ c.toNat
theorem enc_ascii (r : Nat) (h : r < 128) : encodeRune (r : Nat) = [r.toUInt8] := by
  unfold encodeRune
  rw [encodeRuneZ_one (r := r) (by omega) (by omega)]
  simp

theorem hex_two (c : UInt8) (h : 16 ≤ c.toNat) : hexDigits c.toNat = [hexDig (c.toNat / 16), hexDig (c.toNat % 16)] := by
  have := c.toNat_lt
  unfold hexDigits
  rw [hexN_big 6 c.toNat h, hexN_small 6 _ (by omega)]
  rfl

set_option maxHeartbeats 1000000 in
/-- One rune, read again. -/
theorem unq_tok (T : List UInt8) (t : Sum Nat UInt8) (ht : okT t) (r : List UInt8) (p f : Nat) (acc : List UInt8) (hT : T.drop p = quoteT t ++ r) :
    unqFrom ⟨T.toArray⟩ (f + 1) p acc = unqFrom ⟨T.toArray⟩ f (p + (quoteT t).length) (acc ++ encT t) := by
  cases t with
  | inr c =>
    have hc : 128 ≤ c.toNat := ht
    have hlt := c.toNat_lt
    have h2 := hex_two c (by omega)
    have hq : quoteT (.inr c) = [92, 120, hexDig (c.toNat / 16), hexDig (c.toNat % 16)] := by show [92, 120] ++ hexDigits c.toNat = _; rw [h2]; rfl
    rw [hq] at hT ⊢
    obtain ⟨a1, _, a3, a4⟩ := byt_drop T p 92 _ hT
    obtain ⟨b1, _, b3, b4⟩ := byt_drop T (p + 1) 120 _ a4
    obtain ⟨c1, _, c3, c4⟩ := byt_drop T (p + 1 + 1) _ _ b4
    obtain ⟨d1, _, d3, d4⟩ := byt_drop T (p + 1 + 1 + 1) _ _ c4
    obtain ⟨k1, k2⟩ := dig_ok (c.toNat / 16) (by omega)
    obtain ⟨m1, m2⟩ := dig_ok (c.toNat % 16) (by omega)
    have hx : escX ⟨T.toArray⟩ (p + 1 + 1) = ([c], p + 1 + 1 + 2, 0) := by
      rw [escX, if_neg (by omega), c1, k1, if_neg (by simp), if_neg (by omega), d1, m1, if_neg (by simp), k2, m2]
      have : (c.toNat / 16 * 16 + c.toNat % 16).toUInt8 = c := by
        rw [show c.toNat / 16 * 16 + c.toNat % 16 = c.toNat by omega]
        simp
      rw [this]
    have he : esc ⟨T.toArray⟩ (p + 1) = ([c], p + 1 + 1 + 2, 0) := by
      rw [esc, if_neg (by omega), b1, if_neg (by decide), if_neg (by decide), if_pos (by decide), hx]
    rw [unqFrom, if_neg (by omega), a1, if_neg (by decide), if_pos (by decide), he, if_pos rfl]
    rfl
  | inl r' =>
    obtain ⟨hr1, hr2⟩ : okR r' := ht
    by_cases q1 : r' = 34
    · subst q1
      have hq : quoteT (.inl 34) = [92, 34] := rfl
      rw [hq] at hT ⊢
      obtain ⟨a1, _, a3, a4⟩ := byt_drop T p 92 _ hT
      obtain ⟨b1, b2, b3, b4⟩ := byt_drop T (p + 1) 34 _ a4
      have he : esc ⟨T.toArray⟩ (p + 1) = ([34], p + 1 + 1, 0) := by
        rw [esc, if_neg (by omega), b1, if_pos (by decide), b2]
      rw [unqFrom, if_neg (by omega), a1, if_neg (by decide), if_pos (by decide), he, if_pos rfl]
      rfl
    by_cases q2 : r' = 92
    · subst q2
      have hq : quoteT (.inl 92) = [92, 92] := rfl
      rw [hq] at hT ⊢
      obtain ⟨a1, _, a3, a4⟩ := byt_drop T p 92 _ hT
      obtain ⟨b1, b2, b3, b4⟩ := byt_drop T (p + 1) 92 _ a4
      have he : esc ⟨T.toArray⟩ (p + 1) = ([92], p + 1 + 1, 0) := by
        rw [esc, if_neg (by omega), b1, if_pos (by decide), b2]
      rw [unqFrom, if_neg (by omega), a1, if_neg (by decide), if_pos (by decide), he, if_pos rfl]
      rfl
    by_cases q3 : r' = 10
    · subst q3
      have hq : quoteT (.inl 10) = [92, 110] := rfl
      rw [hq] at hT ⊢
      obtain ⟨a1, _, a3, a4⟩ := byt_drop T p 92 _ hT
      obtain ⟨b1, b2, b3, b4⟩ := byt_drop T (p + 1) 110 _ a4
      have he : esc ⟨T.toArray⟩ (p + 1) = ([10], p + 1 + 1, 0) := by
        rw [esc, if_neg (by omega), b1, if_neg (by decide), if_pos (by decide)]
      rw [unqFrom, if_neg (by omega), a1, if_neg (by decide), if_pos (by decide), he, if_pos rfl]
      rfl
    by_cases q4 : 32 ≤ r' ∧ r' ≤ 126
    · have hq : quoteT (.inl r') = [r'.toUInt8] := by show quoteR r' = _; simp [quoteR, q1, q2, q3, q4.1, q4.2]
      rw [hq] at hT ⊢
      have hn : r'.toUInt8.toNat = r' := by simp; omega
      obtain ⟨a1, a2, a3, a4⟩ := byt_drop T p r'.toUInt8 _ hT
      rw [unqFrom, if_neg (by omega), a1, hn, if_neg q1, if_neg q2, if_pos q4, a2]
      show _ = unqFrom _ f (p + 1) (acc ++ encodeRune (r' : Nat))
      rw [enc_ascii r' (by omega)]
    · have hq : quoteT (.inl r') = [92, 117, 123] ++ (hexDigits r' ++ [125]) := by show quoteR r' = _; simp [quoteR, q1, q2, q3, q4]
      have hlen : (quoteT (.inl r')).length = 4 + (hexDigits r').length := by rw [hq]; simp; omega
      rw [hlen]
      rw [hq] at hT
      have hT : T.drop p = 92 :: 117 :: 123 :: (hexDigits r' ++ 125 :: r) := by rw [hT]; simp
      obtain ⟨a1, _, a3, a4⟩ := byt_drop T p 92 _ hT
      obtain ⟨b1, _, b3, b4⟩ := byt_drop T (p + 1) 117 _ a4
      obtain ⟨c1, _, c3, c4⟩ := byt_drop T (p + 1 + 1) 123 _ b4
      have hnum := num_hex T r' (by omega) r (p + 1 + 1 + 1) c4
      have hend : T.drop (p + 1 + 1 + 1 + (hexDigits r').length) = 125 :: r := by
        rw [← List.drop_drop, c4, List.drop_left]
      obtain ⟨d1, _, d3, d4⟩ := byt_drop T _ 125 _ hend
      have hpos := (hexDigits_length r').1
      have hx : escU ⟨T.toArray⟩ (p + 1 + 1) = (encodeRune (r' : Nat), p + 1 + 1 + 1 + (hexDigits r').length + 1, 0) := by
        rw [escU, if_neg (by omega), c1, if_neg (by decide), hnum]
        simp only
        rw [if_neg (by omega), d1, if_neg (by decide), if_neg (by omega)]
      have he : esc ⟨T.toArray⟩ (p + 1) = (encodeRune (r' : Nat), p + 1 + 1 + 1 + (hexDigits r').length + 1, 0) := by
        rw [esc, if_neg (by omega), b1, if_neg (by decide), if_neg (by decide), if_neg (by decide), if_pos (by decide), hx]
      rw [unqFrom, if_neg (by omega), a1, if_neg (by decide), if_pos (by decide), he, if_pos rfl]
      simp only
      rw [show p + 1 + 1 + 1 + (hexDigits r').length + 1 = p + (4 + (hexDigits r').length) by omega]
      rfl
end Go.Proofs.YthkjnhihpbomaaaDoor
