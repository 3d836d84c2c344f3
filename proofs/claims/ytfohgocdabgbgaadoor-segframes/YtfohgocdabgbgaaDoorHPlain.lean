/- Codes of symbols, told by how many codes of each length there are; bits of bytes as one list: plain functions; no program in it. -/
import Derived.Test.YtfohgocdabgbgaaDoorPlain2
namespace Go.Proofs.YtfohgocdabgbgaaDoor

/-- The first code of a length (one more than the number says). -/
def fst (c : Nat → Nat) : Nat → Nat
  | 0 => 0
  | n + 1 => 2 * (fst c n + c n)
/-- How many codes are shorter. -/
def off (c : Nat → Nat) : Nat → Nat
  | 0 => 0
  | n + 1 => off c n + c n
theorem off_le (c : Nat → Nat) {m n : Nat} (h : m ≤ n) : off c m ≤ off c n := by
  induction h with
  | refl => exact Nat.le_refl _
  | step _ ih => exact Nat.le_trans ih (Nat.le_add_right _ _)
theorem off_bound (c : Nat → Nat) (hc : ∀ i, c i < 256) : ∀ n, off c n ≤ 255 * n
  | 0 => Nat.le_refl _
  | n + 1 => by
    have h1 := off_bound c hc n
    have h2 := hc n
    show off c n + c n ≤ _
    omega
theorem fst_bound (c : Nat → Nat) (hc : ∀ i, c i < 256) : ∀ n, fst c n + 512 ≤ 512 * 2 ^ n
  | 0 => Nat.le_refl _
  | n + 1 => by
    have h1 := fst_bound c hc n
    have h2 := hc n
    show 2 * (fst c n + c n) + 512 ≤ _
    rw [Nat.pow_succ]
    omega
theorem fst_16 (c : Nat → Nat) (hc : ∀ i, c i < 256) (n : Nat) (hn : n ≤ 16) : fst c n ≤ 33554432 := by
  have h1 := fst_bound c hc n
  have h2 : 2 ^ n ≤ 2 ^ 16 := Nat.pow_le_pow_right (by omega) hn
  omega
theorem fst_ge (c : Nat → Nat) (j : Nat) : ∀ k, 2 ^ (k + 1) * (fst c j + c j) ≤ fst c (j + k + 1)
  | 0 => by show _ ≤ 2 * (fst c j + c j); omega
  | k + 1 => by
    have h := fst_ge c j k
    show _ ≤ 2 * (fst c (j + k + 1) + c (j + k + 1))
    rw [Nat.pow_succ, Nat.mul_comm _ 2, Nat.mul_assoc]
    omega

/-- Such counts and symbols are a table. -/
structure Right (c : Nat → Nat) (y : List UInt8) : Prop where
  sum : off c 16 = y.length
  some : 1 ≤ y.length
  few : y.length ≤ 256
  once : y.Nodup
  free : ∀ n, n < 16 → fst c n + c n < 2 ^ (n + 1)

/-- Of which length (less one) the code at a place is. -/
def lvlN (c : Nat → Nat) (i : Nat) : Nat → Nat
  | 0 => 0
  | n + 1 => if i < off c n then lvlN c i n else n
theorem lvlN_spec (c : Nat → Nat) (i : Nat) : ∀ n, i < off c n → lvlN c i n < n ∧ off c (lvlN c i n) ≤ i ∧ i < off c (lvlN c i n) + c (lvlN c i n)
  | 0, h => by simp [off] at h
  | n + 1, h => by
    unfold lvlN
    split
    · rename_i h1
      have := lvlN_spec c i n h1
      exact ⟨by omega, this.2⟩
    · exact ⟨Nat.lt_succ_self _, by omega, h⟩
def lvl (c : Nat → Nat) (i : Nat) : Nat := lvlN c i 16
theorem lvl_spec (c : Nat → Nat) (i : Nat) (h : i < off c 16) : lvl c i < 16 ∧ off c (lvl c i) ≤ i ∧ i < off c (lvl c i) + c (lvl c i) := lvlN_spec c i 16 h
theorem lvl_unique (c : Nat → Nat) (i m n : Nat) (hm : off c m ≤ i) (hm' : i < off c m + c m) (hn : off c n ≤ i) (hn' : i < off c n + c n) : m = n := by
  apply Decidable.byContradiction
  intro h
  rcases Nat.lt_or_gt_of_ne h with h | h
  · have : off c (m + 1) ≤ off c n := off_le c h
    have e : off c (m + 1) = off c m + c m := rfl
    omega
  · have : off c (n + 1) ≤ off c m := off_le c h
    have e : off c (n + 1) = off c n + c n := rfl
    omega
/-- The code at a place, and its length. -/
def codeN (c : Nat → Nat) (i : Nat) : Nat := fst c (lvl c i) + (i - off c (lvl c i))
def codeL (c : Nat → Nat) (i : Nat) : Nat := lvl c i + 1
def cbits (c : Nat → Nat) (i : Nat) : List Bool := bitsOf (codeN c i) (codeL c i)

theorem code_lt {c : Nat → Nat} {y : List UInt8} (h : Right c y) {i : Nat} (hi : i < y.length) : codeN c i + 1 < 2 ^ codeL c i := by
  obtain ⟨h1, h2, h3⟩ := lvl_spec c i (by rw [h.sum]; exact hi)
  have := h.free _ h1
  unfold codeN codeL
  omega
theorem codeL_le {c : Nat → Nat} {y : List UInt8} (h : Right c y) {i : Nat} (hi : i < y.length) : codeL c i ≤ 16 := (lvl_spec c i (by rw [h.sum]; exact hi)).1

/-- The codes of all lengths up to this one: symbol, code, length. -/
def row (c : Nat → Nat) (y : List UInt8) (n : Nat) : List (Nat × Nat × Nat) := (List.range (c n)).map fun i => ((y.getD (off c n + i) 0).toNat, fst c n + i, n + 1)
def codes (c : Nat → Nat) (y : List UInt8) : Nat → List (Nat × Nat × Nat)
  | 0 => []
  | n + 1 => codes c y n ++ row c y n
theorem codes_length (c : Nat → Nat) (y : List UInt8) : ∀ n, (codes c y n).length = off c n
  | 0 => rfl
  | n + 1 => by
    have := codes_length c y n
    show (codes c y n ++ row c y n).length = _
    rw [List.length_append, this]
    simp [row, off]
theorem codes_at (c : Nat → Nat) (y : List UInt8) : ∀ (n m i : Nat), m < n → i < c m → (codes c y n)[off c m + i]? = some ((y.getD (off c m + i) 0).toNat, fst c m + i, m + 1)
  | 0, _, _, h, _ => by omega
  | n + 1, m, i, h, hi => by
    show (codes c y n ++ row c y n)[off c m + i]? = _
    by_cases e : m = n
    · subst e
      rw [List.getElem?_append_right (by rw [codes_length]; omega), codes_length, Nat.add_sub_cancel_left]
      unfold row
      rw [List.getElem?_map, List.getElem?_range hi]
      rfl
    · have h1 := codes_at c y n m i (by omega) hi
      rw [List.getElem?_append_left (List.getElem?_eq_some_iff.1 h1).1]
      exact h1
theorem codes_get {c : Nat → Nat} {y : List UInt8} (h : Right c y) {i : Nat} (hi : i < y.length) : (codes c y 16)[i]? = some (y[i].toNat, codeN c i, codeL c i) := by
  obtain ⟨h1, h2, h3⟩ := lvl_spec c i (by rw [h.sum]; exact hi)
  have := codes_at c y 16 (lvl c i) (i - off c (lvl c i)) h1 (by omega)
  rw [Nat.add_sub_cancel' h2] at this
  rw [this]
  simp only [codeN, codeL, List.getD_eq_getElem?_getD, List.getElem?_eq_getElem hi, Option.getD_some]

/-- Which code of a length it is. -/
theorem code_iff {c : Nat → Nat} {y : List UInt8} (h : Right c y) {j : Nat} (hj : j < y.length) (n v : Nat) (hv : fst c n ≤ v) : codeL c j = n + 1 ∧ codeN c j = v ↔ v < fst c n + c n ∧ j = off c n + (v - fst c n) := by
  obtain ⟨h1, h2, h3⟩ := lvl_spec c j (by rw [h.sum]; exact hj)
  unfold codeL codeN
  constructor
  · rintro ⟨e1, e2⟩
    have e : lvl c j = n := by omega
    rw [e] at e2 h2 h3
    omega
  · rintro ⟨e1, e2⟩
    have e : lvl c j = n := lvl_unique c j _ _ h2 h3 (by omega) (by omega)
    rw [e]
    omega

/-- What is read of bits: the symbol, how many bits it took, the error, the bits that are left. -/
def dec (c : Nat → Nat) (y : List UInt8) : Nat → Nat → Nat → List Bool → Nat × Nat × Nat × List Bool
  | 0, _, _, S => (0, 0, 9, S)
  | _ + 1, _, _, [] => (0, 0, 2, [])
  | k + 1, n, v, b :: S => if 2 * v + b.toNat < fst c n + c n then ((y.getD (off c n + (2 * v + b.toNat - fst c n)) 0).toNat, n + 1, 0, S) else dec c y k (n + 1) (2 * v + b.toNat) S
/-- Of a table with 16 lengths. -/
def decode (c : Nat → Nat) (y : List UInt8) (S : List Bool) : Nat × Nat × Nat × List Bool := dec c y 16 0 0 S

theorem half_bit (x k : Nat) : 2 * (x / 2 ^ (k + 1)) + (x / 2 ^ k % 2 == 1).toNat = x / 2 ^ k := by
  rw [bit_toNat, Nat.pow_succ, ← Nat.div_div_eq_div_mul]
  omega
theorem dec_code {c : Nat → Nat} {y : List UInt8} (n i : Nat) (hi : i < c n) (hn : n < 16) (R : List Bool) :
    ∀ (k j f : Nat), j + k = n → f = 16 - j → dec c y f j ((fst c n + i) / 2 ^ (k + 1)) (bitsOf (fst c n + i) (k + 1) ++ R) = ((y.getD (off c n + i) 0).toNat, n + 1, 0, R) := by
  intro k
  induction k with
  | zero =>
    intro j f hj hf
    obtain rfl : j = n := by omega
    obtain ⟨f', rfl⟩ : ∃ f', f = f' + 1 := ⟨f - 1, by omega⟩
    have hb := half_bit (fst c j + i) 0
    simp only [Nat.pow_zero, Nat.div_one] at hb
    show dec c y (f' + 1) j _ (((fst c j + i) / 2 ^ 0 % 2 == 1) :: R) = _
    unfold dec
    simp only [Nat.pow_zero, Nat.div_one, Nat.zero_add] at hb ⊢
    rw [hb, if_pos (by omega), Nat.add_sub_cancel_left]
  | succ k ih =>
    intro j f hj hf
    obtain ⟨f', rfl⟩ : ∃ f', f = f' + 1 := ⟨f - 1, by omega⟩
    have hb := half_bit (fst c n + i) (k + 1)
    have hge := fst_ge c j k
    rw [show j + k + 1 = n by omega] at hge
    show dec c y (f' + 1) j _ (((fst c n + i) / 2 ^ (k + 1) % 2 == 1) :: (bitsOf (fst c n + i) (k + 1) ++ R)) = _
    unfold dec
    rw [hb, if_neg ?_]
    · exact ih (j + 1) f' (by omega) (by omega)
    · refine Nat.not_lt.2 ((Nat.le_div_iff_mul_le (Nat.two_pow_pos _)).2 ?_)
      rw [Nat.mul_comm]
      omega
/-- A code is read as its symbol. -/
theorem decode_cbits {c : Nat → Nat} {y : List UInt8} (h : Right c y) {i : Nat} (hi : i < y.length) (R : List Bool) : decode c y (cbits c i ++ R) = (y[i].toNat, codeL c i, 0, R) := by
  obtain ⟨h1, h2, h3⟩ := lvl_spec c i (by rw [h.sum]; exact hi)
  have hlt := code_lt h hi
  have hd := dec_code (c := c) (y := y) (lvl c i) (i - off c (lvl c i)) (by omega) h1 R (lvl c i) 0 16 (by omega) rfl
  unfold decode cbits
  have h0 : (fst c (lvl c i) + (i - off c (lvl c i))) / 2 ^ (lvl c i + 1) = 0 := Nat.div_eq_of_lt (by unfold codeN codeL at hlt; omega)
  rw [h0, Nat.add_sub_cancel' h2] at hd
  unfold codeN codeL
  rw [hd]
  simp only [List.getD_eq_getElem?_getD, List.getElem?_eq_getElem hi, Option.getD_some]
/-- No code is a beginning of another one. -/
theorem code_prefix {c : Nat → Nat} {y : List UInt8} (h : Right c y) {i j : Nat} (hi : i < y.length) (hj : j < y.length) (hne : i ≠ j) (hl : codeL c j ≤ codeL c i) : codeN c i / 2 ^ (codeL c i - codeL c j) ≠ codeN c j := by
  obtain ⟨i1, i2, i3⟩ := lvl_spec c i (by rw [h.sum]; exact hi)
  obtain ⟨j1, j2, j3⟩ := lvl_spec c j (by rw [h.sum]; exact hj)
  unfold codeN codeL at *
  intro e
  by_cases hlt : lvl c j < lvl c i
  · obtain ⟨k, hk⟩ : ∃ k, lvl c i = lvl c j + k + 1 := ⟨lvl c i - lvl c j - 1, by omega⟩
    have hge := fst_ge c (lvl c j) k
    rw [← hk] at hge
    rw [show lvl c i + 1 - (lvl c j + 1) = k + 1 by omega] at e
    have : fst c (lvl c j) + c (lvl c j) ≤ (fst c (lvl c i) + (i - off c (lvl c i))) / 2 ^ (k + 1) := by
      refine (Nat.le_div_iff_mul_le (Nat.two_pow_pos _)).2 ?_
      rw [Nat.mul_comm]
      omega
    omega
  · have e1 : lvl c i = lvl c j := by omega
    rw [e1, show lvl c j + 1 - (lvl c j + 1) = 0 by omega, Nat.pow_zero, Nat.div_one] at e
    rw [e1] at i2 i3
    omega

/-- All bits of bytes from a place on. -/
def streamN (l : List UInt8) : Nat → Nat → List Bool
  | 0, _ => []
  | k + 1, a => if (dbyte l a).2 = 0 then [] else bitsOf (dbyte l a).1 8 ++ streamN l k (a + (dbyte l a).2)
def stream (l : List UInt8) (a : Nat) : List Bool := streamN l (l.length - a) a
theorem dbyte_out (l : List UInt8) (a : Nat) (h : l.length ≤ a) : dbyte l a = (0, 0) := by
  unfold dbyte
  rw [List.getElem?_eq_none h]
theorem streamN_eq (l : List UInt8) : ∀ (k m a : Nat), l.length - a ≤ k → l.length - a ≤ m → streamN l k a = streamN l m a
  | 0, 0, _, _, _ => rfl
  | 0, m + 1, a, h, _ => by
    show [] = if (dbyte l a).2 = 0 then [] else _
    rw [if_pos (by rw [dbyte_out l a (by omega)])]
  | k + 1, 0, a, _, h => by
    show (if (dbyte l a).2 = 0 then [] else _) = []
    rw [if_pos (by rw [dbyte_out l a (by omega)])]
  | k + 1, m + 1, a, h, h' => by
    show (if (dbyte l a).2 = 0 then [] else bitsOf (dbyte l a).1 8 ++ streamN l k (a + (dbyte l a).2)) = if (dbyte l a).2 = 0 then [] else bitsOf (dbyte l a).1 8 ++ streamN l m (a + (dbyte l a).2)
    by_cases h0 : (dbyte l a).2 = 0
    · rw [if_pos h0, if_pos h0]
    · rw [streamN_eq l k m (a + (dbyte l a).2) (by omega) (by omega)]
theorem stream_step (l : List UInt8) (a : Nat) : stream l a = if (dbyte l a).2 = 0 then [] else bitsOf (dbyte l a).1 8 ++ stream l (a + (dbyte l a).2) := by
  unfold stream
  rw [streamN_eq l (l.length - a) (l.length - a + 1) a (Nat.le_refl _) (Nat.le_succ _)]
  show (if (dbyte l a).2 = 0 then [] else bitsOf (dbyte l a).1 8 ++ streamN l (l.length - a) (a + (dbyte l a).2)) = _
  by_cases h0 : (dbyte l a).2 = 0
  · rw [if_pos h0, if_pos h0]
  · rw [streamN_eq l (l.length - a) (l.length - (a + (dbyte l a).2)) (a + (dbyte l a).2) (by omega) (Nat.le_refl _)]
theorem streamN_length (l : List UInt8) : ∀ (k a : Nat), (streamN l k a).length ≤ 8 * k
  | 0, _ => Nat.le_refl _
  | k + 1, a => by
    show (if (dbyte l a).2 = 0 then [] else bitsOf (dbyte l a).1 8 ++ streamN l k (a + (dbyte l a).2)).length ≤ _
    split
    · simp
    · have := streamN_length l k (a + (dbyte l a).2)
      rw [List.length_append, bitsOf_length]
      omega
theorem stream_length (l : List UInt8) : (stream l 0).length ≤ 8 * l.length := streamN_length l _ _
/-- One bit of what is left. -/
theorem rbits_nil (l : List UInt8) (a : Nat) (H : List Bool) (h : H ++ stream l a = []) : rbits l (1 : Nat) a H = (0, a, H, 2) := by
  obtain ⟨rfl, h2⟩ := List.append_eq_nil_iff.1 h
  refine rbits_none l 1 a [] (by omega) (fetch_none l 1 a [] (by simp) ?_)
  rw [stream_step] at h2
  by_cases h0 : (dbyte l a).2 = 0
  · exact h0
  · rw [if_neg h0] at h2
    have := congrArg List.length h2
    rw [List.length_append, bitsOf_length] at this
    simp at this
theorem val_one (b : Bool) (l : List Bool) : val ((b :: l).take 1) = b.toNat := by
  show b.toNat * 2 ^ 0 + 0 = _
  omega
theorem rbits_cons (l : List UInt8) (a : Nat) (H : List Bool) (b : Bool) (S : List Bool) (h : H ++ stream l a = b :: S) : (rbits l (1 : Nat) a H).1 = b.toNat ∧ (rbits l (1 : Nat) a H).2.2.2 = 0 ∧ (rbits l (1 : Nat) a H).2.2.1 ++ stream l (rbits l (1 : Nat) a H).2.1 = S := by
  cases H with
  | cons x H =>
    obtain ⟨rfl, h2⟩ : x = b ∧ H ++ stream l a = S := by simpa using h
    rw [rbits_some l 1 a (x :: H) (by omega) a (x :: H) (fetch_done l 1 a (x :: H) (by simp))]
    exact ⟨val_one x H, rfl, h2⟩
  | nil =>
    rw [List.nil_append, stream_step] at h
    by_cases h0 : (dbyte l a).2 = 0
    · rw [if_pos h0] at h; cases h
    · rw [if_neg h0] at h
      have hf := fetch_more l 1 a [] (by simp) h0
      rw [List.nil_append, fetch_done l 1 (a + (dbyte l a).2) (bitsOf (dbyte l a).1 8) (by rw [bitsOf_length]; omega)] at hf
      rw [rbits_some l 1 a [] (by omega) _ _ hf]
      generalize stream l (a + (dbyte l a).2) = T at *
      have hl := bitsOf_length (dbyte l a).1 8
      generalize bitsOf (dbyte l a).1 8 = G at *
      cases G with
      | nil => simp at hl
      | cons x G =>
        obtain ⟨rfl, h2⟩ : x = b ∧ G ++ T = S := by simpa using h
        exact ⟨val_one x G, rfl, h2⟩

theorem dbyte_data (T : List UInt8) (a v : Nat) (t : List UInt8) (hv : v < 256) (h : T.drop a = data v ++ t) : dbyte T a = (v, (data v).length) := by
  have h0 : T[a]? = (data v ++ t)[0]? := by rw [← h]; simp
  have h1 : T[a + 1]? = (data v ++ t)[1]? := by rw [← h]; simp
  unfold dbyte
  by_cases h5 : v = 255
  · subst h5
    have e : data 255 = [255, 0] := rfl
    rw [e] at h0 h1 ⊢
    simp at h0 h1
    rw [h0, h1]
    simp
  · have e : data v = [v.toUInt8] := by unfold data; rw [if_neg h5]
    rw [e] at h0 ⊢
    simp at h0
    have hne : ¬ UInt8.ofNat v = 255 := by
      intro e
      have := congrArg UInt8.toNat e
      simp at this
      omega
    rw [h0]
    simp only [if_neg hne]
    simp
    omega
theorem drop_data (T : List UInt8) (a v : Nat) (t : List UInt8) (h : T.drop a = data v ++ t) : T.drop (a + (data v).length) = t := by
  rw [← List.drop_drop, h, List.drop_left]
theorem stream_whole (T : List UInt8) : ∀ (m a : Nat) (Q : List Bool), Q.length = 8 * m → T.drop a = whole Q → stream T a = Q
  | 0, a, Q, hQ, h => by
    have hq : Q = [] := List.eq_nil_of_length_eq_zero (by omega)
    subst hq
    rw [whole_short [] (by simp)] at h
    have hl : T.length ≤ a := by
      have := congrArg List.length h
      simp at this
      omega
    rw [stream_step, dbyte_out T a hl, if_pos rfl]
  | m + 1, a, Q, hQ, h => by
    have hv := val_lt (Q.take 8)
    rw [List.length_take, show min 8 Q.length = 8 by omega] at hv
    rw [whole_long Q (by omega)] at h
    have hd := dbyte_data T a (val (Q.take 8)) _ (by omega) h
    have hdr := drop_data T a (val (Q.take 8)) _ h
    have hl : 1 ≤ (data (val (Q.take 8))).length := by unfold data; split <;> simp
    have hbit : bitsOf (val (Q.take 8)) 8 = Q.take 8 := by
      have := bitsOf_val (Q.take 8)
      rwa [List.length_take, show min 8 Q.length = 8 by omega] at this
    rw [stream_step, hd, if_neg (by simp only []; omega)]
    simp only [hbit]
    rw [stream_whole T m _ (Q.drop 8) (by rw [List.length_drop]; omega) hdr, List.take_append_drop]
/-- What was put, and 1s. -/
theorem stream_stuff (L : List Bool) : ∃ p, stream (stuff L) 0 = L ++ List.replicate p true := by
  refine ⟨(8 - L.length % 8) % 8, stream_whole (stuff L) ((L.length + 7) / 8) 0 _ ?_ rfl⟩
  rw [List.length_append, List.length_replicate]
  omega
end Go.Proofs.YtfohgocdabgbgaaDoor
