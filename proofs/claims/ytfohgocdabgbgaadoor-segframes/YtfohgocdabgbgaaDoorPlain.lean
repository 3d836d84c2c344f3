/- Bits, the first one the highest, and their bytes: plain functions; no program in it. -/
namespace Go.Proofs.YtfohgocdabgbgaaDoor

/-- The number of bits. -/
def val : List Bool → Nat
  | [] => 0
  | b :: l => b.toNat * 2 ^ l.length + val l
theorem val_append : ∀ (a b : List Bool), val (a ++ b) = val a * 2 ^ b.length + val b
  | [], b => by simp [val]
  | c :: a, b => by
    have h : val (c :: (a ++ b)) = c.toNat * 2 ^ (a ++ b).length + val (a ++ b) := rfl
    have h2 : val (c :: a) = c.toNat * 2 ^ a.length + val a := rfl
    rw [List.cons_append, h, h2, val_append a b, List.length_append, Nat.pow_add, Nat.add_mul, Nat.mul_assoc, Nat.add_assoc]
theorem val_lt : ∀ (l : List Bool), val l < 2 ^ l.length
  | [] => by simp [val]
  | b :: l => by
    have h := val_lt l
    have h2 : val (b :: l) = b.toNat * 2 ^ l.length + val l := rfl
    rw [h2, List.length_cons, Nat.pow_succ]
    cases b <;> simp <;> omega
theorem val_snoc (l : List Bool) (b : Bool) : val (l ++ [b]) = val l * 2 + b.toNat := by
  rw [val_append]; simp [val]
theorem val_div (a b : List Bool) : val (a ++ b) / 2 ^ b.length = val a := by
  rw [val_append, Nat.mul_comm, Nat.mul_add_div (Nat.pow_pos (by omega)), Nat.div_eq_of_lt (val_lt b), Nat.add_zero]
theorem val_mod (a b : List Bool) : val (a ++ b) % 2 ^ b.length = val b := by
  rw [val_append, Nat.mul_comm, Nat.mul_add_mod, Nat.mod_eq_of_lt (val_lt b)]
theorem val_take (l : List Bool) (n : Nat) : val (l.take n) = val l / 2 ^ (l.length - n) := by
  have := val_div (l.take n) (l.drop n)
  rw [List.take_append_drop, List.length_drop] at this
  exact this.symm
theorem val_drop (l : List Bool) (n : Nat) : val (l.drop n) = val l % 2 ^ (l.length - n) := by
  have := val_mod (l.take n) (l.drop n)
  rw [List.take_append_drop, List.length_drop] at this
  exact this.symm
theorem val_inj : ∀ (a b : List Bool), a.length = b.length → val a = val b → a = b
  | [], [], _, _ => rfl
  | x :: a, y :: b, hl, hv => by
    have hl' : a.length = b.length := by simpa using hl
    have h1 : val (x :: a) = x.toNat * 2 ^ a.length + val a := rfl
    have h2 : val (y :: b) = y.toNat * 2 ^ b.length + val b := rfl
    have la := val_lt a
    have lb := val_lt b
    rw [h1, h2, hl'] at hv
    rw [hl'] at la
    have hxy : x = y := by
      cases x <;> cases y <;> simp at hv ⊢ <;> omega
    subst hxy
    rw [val_inj a b hl' (by omega)]
theorem val_true (n : Nat) : val (List.replicate n true) = 2 ^ n - 1 := by
  induction n with
  | zero => rfl
  | succ n ih =>
    have h : val (true :: List.replicate n true) = true.toNat * 2 ^ (List.replicate n true).length + val (List.replicate n true) := rfl
    have := Nat.two_pow_pos n
    rw [List.replicate_succ, h, ih, Nat.pow_succ]
    simp
    omega

/-- The lowest bits of a number. -/
def bitsOf (v : Nat) : Nat → List Bool
  | 0 => []
  | k + 1 => (v / 2 ^ k % 2 == 1) :: bitsOf v k
theorem bitsOf_length (v : Nat) : ∀ n, (bitsOf v n).length = n
  | 0 => rfl
  | n + 1 => by simp [bitsOf, bitsOf_length v n]
theorem bit_toNat (x : Nat) : (x % 2 == 1).toNat = x % 2 := by
  have : x % 2 = 0 ∨ x % 2 = 1 := by omega
  rcases this with h | h <;> rw [h] <;> rfl
theorem val_bitsOf (v : Nat) : ∀ n, val (bitsOf v n) = v % 2 ^ n
  | 0 => by simp [bitsOf, val, Nat.mod_one]
  | n + 1 => by
    have h : val (bitsOf v (n + 1)) = (v / 2 ^ n % 2 == 1).toNat * 2 ^ (bitsOf v n).length + val (bitsOf v n) := rfl
    rw [h, bitsOf_length, val_bitsOf v n, bit_toNat, Nat.pow_succ, Nat.mod_mul, Nat.mul_comm]
    omega
theorem bitsOf_val (l : List Bool) : bitsOf (val l) l.length = l :=
  val_inj _ _ (bitsOf_length _ _) (by rw [val_bitsOf, Nat.mod_eq_of_lt (val_lt l)])
theorem val_bitsOf_lt (v n : Nat) (h : v < 2 ^ n) : val (bitsOf v n) = v := by rw [val_bitsOf, Nat.mod_eq_of_lt h]

/-- The bytes of data that stand for eight bits. -/
def data (n : Nat) : List UInt8 := if n = 255 then [255, 0] else [n.toUInt8]
/-- The bytes of the whole bytes of bits. -/
def wholeN : Nat → List Bool → List UInt8
  | 0, _ => []
  | n + 1, l => if 8 ≤ l.length then data (val (l.take 8)) ++ wholeN n (l.drop 8) else []
theorem wholeN_eq : ∀ (n m : Nat) (l : List Bool), l.length ≤ n → l.length ≤ m → wholeN n l = wholeN m l
  | 0, 0, _, _, _ => rfl
  | 0, m + 1, l, h, _ => by
    show [] = if 8 ≤ l.length then data (val (l.take 8)) ++ wholeN m (l.drop 8) else []
    rw [if_neg (by omega)]
  | n + 1, 0, l, _, h => by
    show (if 8 ≤ l.length then data (val (l.take 8)) ++ wholeN n (l.drop 8) else []) = []
    rw [if_neg (by omega)]
  | n + 1, m + 1, l, h, h' => by
    show (if 8 ≤ l.length then data (val (l.take 8)) ++ wholeN n (l.drop 8) else []) = if 8 ≤ l.length then data (val (l.take 8)) ++ wholeN m (l.drop 8) else []
    by_cases h8 : 8 ≤ l.length
    · rw [wholeN_eq n m (l.drop 8) (by rw [List.length_drop]; omega) (by rw [List.length_drop]; omega)]
    · rw [if_neg h8, if_neg h8]
def whole (l : List Bool) : List UInt8 := wholeN l.length l
theorem whole_short (l : List Bool) (h : l.length < 8) : whole l = [] := by
  unfold whole
  rw [wholeN_eq l.length (l.length + 1) l (Nat.le_refl _) (Nat.le_succ _)]
  exact if_neg (by omega)
theorem whole_long (l : List Bool) (h : 8 ≤ l.length) : whole l = data (val (l.take 8)) ++ whole (l.drop 8) := by
  unfold whole
  rw [wholeN_eq l.length (l.length + 1) l (Nat.le_refl _) (Nat.le_succ _), wholeN_eq (l.drop 8).length l.length (l.drop 8) (Nat.le_refl _) (by rw [List.length_drop]; omega)]
  exact if_pos h
theorem whole_append (b : List Bool) : ∀ (n : Nat) (a : List Bool), a.length = 8 * n → whole (a ++ b) = whole a ++ whole b
  | 0, a, h => by
    have : a = [] := List.eq_nil_of_length_eq_zero (by omega)
    subst this
    rw [whole_short [] (by simp)]
    simp
  | n + 1, a, h => by
    rw [whole_long (a ++ b) (by simp; omega), whole_long a (by omega), List.take_append_of_le_length (by omega), List.drop_append_of_le_length (by omega),
      whole_append b n (a.drop 8) (by simp; omega), List.append_assoc]
/-- The bits of the byte that was begun. -/
def rest (l : List Bool) : List Bool := l.drop (8 * (l.length / 8))
theorem rest_length (l : List Bool) : (rest l).length = l.length % 8 := by unfold rest; rw [List.length_drop]; omega
theorem whole_rest (a b : List Bool) : whole (a ++ b) = whole a ++ whole (rest a ++ b) := by
  have h1 := whole_append (rest a ++ b) (a.length / 8) (a.take (8 * (a.length / 8))) (by rw [List.length_take]; omega)
  have h2 := whole_append (rest a) (a.length / 8) (a.take (8 * (a.length / 8))) (by rw [List.length_take]; omega)
  rw [← List.append_assoc] at h1
  have e : a.take (8 * (a.length / 8)) ++ rest a = a := List.take_append_drop _ _
  rw [e] at h1 h2
  rw [h1, h2, whole_short (rest a) (by rw [rest_length]; omega), List.append_nil]
theorem rest_rest (a b : List Bool) : rest (a ++ b) = rest (rest a ++ b) := by
  have e : a.take (8 * (a.length / 8)) ++ (rest a ++ b) = a ++ b := by
    rw [← List.append_assoc]; congr 1; exact List.take_append_drop _ _
  have hl : (a.take (8 * (a.length / 8))).length = 8 * (a.length / 8) := by rw [List.length_take]; omega
  unfold rest at e ⊢
  rw [List.length_append, ← e, List.drop_append, hl]
  have h1 : (a.take (8 * (a.length / 8))).drop (8 * ((a.length + b.length) / 8)) = [] := List.drop_eq_nil_of_le (by rw [hl]; omega)
  rw [h1, List.nil_append]
  congr 1
  rw [List.length_append, List.length_drop]
  omega
theorem whole_length (n : Nat) : ∀ (l : List Bool), l.length ≤ 8 * n + 7 → (whole l).length ≤ 2 * n := by
  induction n with
  | zero => intro l h; rw [whole_short l (by omega)]; simp
  | succ n ih =>
    intro l h
    by_cases h8 : 8 ≤ l.length
    · rw [whole_long l h8, List.length_append]
      have h1 := ih (l.drop 8) (by rw [List.length_drop]; omega)
      have h2 : (data (val (l.take 8))).length ≤ 2 := by unfold data; split <;> simp
      omega
    · rw [whole_short l (by omega)]; simp

/-- What is written of so many bits of a number, byte by byte. -/
def emitN : Nat → Nat → Nat → List UInt8
  | 0, _, _ => []
  | n + 1, h, P => if 8 ≤ h then data (P / 2 ^ (h - 8) % 256) ++ emitN n (h - 8) P else []
theorem emitN_eq (P : Nat) : ∀ (n m h : Nat), h ≤ n → h ≤ m → emitN n h P = emitN m h P
  | 0, 0, _, _, _ => rfl
  | 0, m + 1, h, hn, _ => by
    show [] = if 8 ≤ h then data (P / 2 ^ (h - 8) % 256) ++ emitN m (h - 8) P else []
    rw [if_neg (by omega)]
  | n + 1, 0, h, _, hm => by
    show (if 8 ≤ h then data (P / 2 ^ (h - 8) % 256) ++ emitN n (h - 8) P else []) = []
    rw [if_neg (by omega)]
  | n + 1, m + 1, h, hn, hm => by
    show (if 8 ≤ h then data (P / 2 ^ (h - 8) % 256) ++ emitN n (h - 8) P else []) = if 8 ≤ h then data (P / 2 ^ (h - 8) % 256) ++ emitN m (h - 8) P else []
    by_cases h8 : 8 ≤ h
    · rw [emitN_eq P n m (h - 8) (by omega) (by omega)]
    · rw [if_neg h8, if_neg h8]
def emit (h P : Nat) : List UInt8 := emitN h h P
theorem emit_short (h P : Nat) (hh : h < 8) : emit h P = [] := by
  unfold emit
  rw [emitN_eq P h (h + 1) h (Nat.le_refl _) (Nat.le_succ _)]
  exact if_neg (by omega)
theorem emit_long (h P : Nat) (hh : 8 ≤ h) : emit h P = data (P / 2 ^ (h - 8) % 256) ++ emit (h - 8) P := by
  unfold emit
  rw [emitN_eq P h (h + 1) h (Nat.le_refl _) (Nat.le_succ _), emitN_eq P (h - 8) h (h - 8) (Nat.le_refl _) (by omega)]
  exact if_pos hh
theorem emit_whole (P : Nat) : ∀ (n : Nat) (l : List Bool), l.length ≤ 8 * n + 7 → P % 2 ^ l.length = val l → emit l.length P = whole l := by
  intro n
  induction n with
  | zero => intro l h _; rw [whole_short l (by omega), emit_short _ _ (by omega)]
  | succ n ih =>
    intro l h hv
    by_cases h8 : 8 ≤ l.length
    · have hd := ih (l.drop 8) (by rw [List.length_drop]; omega) (by
        rw [val_drop, ← hv, List.length_drop]
        exact (Nat.mod_mod_of_dvd _ (Nat.pow_dvd_pow 2 (by omega))).symm)
      rw [List.length_drop] at hd
      rw [whole_long l h8, emit_long _ _ h8, hd, val_take, ← hv]
      congr 2
      have e : 2 ^ l.length = 2 ^ (l.length - 8) * 256 := by
        rw [show (256 : Nat) = 2 ^ 8 from rfl, ← Nat.pow_add]; congr 1; omega
      rw [e, Nat.mod_mul_right_div_self]
    · rw [whole_short l (by omega), emit_short _ _ (by omega)]
theorem emit_val (l : List Bool) : emit l.length (val l) = whole l := emit_whole (val l) (l.length / 8) l (by omega) (Nat.mod_eq_of_lt (val_lt l))

/-- All bytes of bits, the last one filled with 1s. -/
def stuff (l : List Bool) : List UInt8 := whole (l ++ List.replicate ((8 - l.length % 8) % 8) true)
theorem stuff_nil : stuff [] = [] := by unfold stuff; exact whole_short _ (by simp)
theorem stuff_even (l : List Bool) (h : l.length % 8 = 0) : stuff l = whole l := by unfold stuff; rw [h]; simp
theorem stuff_odd (l : List Bool) (h : l.length % 8 ≠ 0) : stuff l = whole l ++ data (val (rest l) * 2 ^ (8 - l.length % 8) + (2 ^ (8 - l.length % 8) - 1)) := by
  unfold stuff
  rw [whole_rest, show (8 - l.length % 8) % 8 = 8 - l.length % 8 by omega]
  have hl : (rest l ++ List.replicate (8 - l.length % 8) true).length = 8 := by rw [List.length_append, rest_length, List.length_replicate]; omega
  rw [whole_long (rest l ++ List.replicate (8 - l.length % 8) true) (by omega), List.take_of_length_le (l := rest l ++ List.replicate (8 - l.length % 8) true) (by omega), List.drop_eq_nil_of_le (as := rest l ++ List.replicate (8 - l.length % 8) true) (by omega), whole_short [] (by simp), List.append_nil, val_append, val_true, List.length_replicate]
/-- A byte's bits: what is there, and 1s behind it. -/
theorem stuff_step (l : List Bool) (h : 0 < l.length) : stuff l = data (val ((l ++ List.replicate 8 true).take 8)) ++ stuff (l.drop 8) := by
  unfold stuff
  by_cases h8 : 8 ≤ l.length
  · rw [whole_long _ (by rw [List.length_append]; omega), List.take_append_of_le_length h8, List.take_append_of_le_length h8, List.drop_append_of_le_length h8, List.length_drop]
    rw [show (8 - (l.length - 8) % 8) % 8 = (8 - l.length % 8) % 8 by omega]
  · have hl : (l ++ List.replicate ((8 - l.length % 8) % 8) true).length = 8 := by rw [List.length_append, List.length_replicate]; omega
    rw [whole_long _ (by omega), List.take_of_length_le (by omega), List.drop_eq_nil_of_le (by omega), List.drop_eq_nil_of_le (as := l) (by omega)]
    rw [whole_short [] (by simp), whole_short _ (by simp), List.append_nil, List.append_nil]
    congr 2
    rw [List.take_append, List.take_of_length_le (by omega), List.take_replicate]
    congr 2
    omega
theorem stuff_length (n : Nat) (l : List Bool) (h : l.length ≤ 8 * n) : (stuff l).length ≤ 2 * n := by
  unfold stuff
  exact whole_length n _ (by rw [List.length_append, List.length_replicate]; omega)
end Go.Proofs.YtfohgocdabgbgaaDoor
