/- Numbers and their bytes, the highest one first: plain functions; no program in it. -/
namespace Go.Proofs.YtfohgocdabgbgaaDoor

/-- The number of bytes. -/
def num : List UInt8 → Nat → Nat
  | [], n => n
  | b :: l, n => num l (n * 256 + b.toNat)
/-- The lowest bytes of a number, the highest one first. -/
def be (n : Nat) : Nat → List UInt8
  | 0 => []
  | i + 1 => (n / 256 ^ i % 256).toUInt8 :: be n i

theorem be_length (n : Nat) : ∀ i, (be n i).length = i
  | 0 => rfl
  | i + 1 => by simp [be, be_length n i]

theorem num_snoc (b : UInt8) : ∀ (l : List UInt8) (n : Nat), num (l ++ [b]) n = num l n * 256 + b.toNat
  | [], _ => rfl
  | c :: l, n => by simp [num, num_snoc b l]

theorem num_acc : ∀ (l : List UInt8) (n : Nat), num l n = n * 256 ^ l.length + num l 0
  | [], n => by simp [num]
  | b :: l, n => by
    rw [num, num_acc l (n * 256 + b.toNat), num, num_acc l (0 * 256 + b.toNat)]
    simp [Nat.pow_succ, Nat.add_mul, Nat.mul_assoc, Nat.mul_comm 256]
    omega

theorem num_lt : ∀ (l : List UInt8), num l 0 < 256 ^ l.length
  | [] => by simp [num]
  | b :: l => by
    rw [num, num_acc]
    have h1 := num_lt l
    have h2 := b.toNat_lt
    have h3 : (0 * 256 + b.toNat) * 256 ^ l.length ≤ 255 * 256 ^ l.length := Nat.mul_le_mul_right _ (by omega)
    have h4 : 256 ^ (b :: l).length = 256 * 256 ^ l.length := by simp [Nat.pow_succ, Nat.mul_comm]
    omega

theorem num_be (n : Nat) : ∀ i, num (be n i) 0 = n % 256 ^ i
  | 0 => by simp [be, num, Nat.mod_one]
  | i + 1 => by
    rw [be, num, num_acc, num_be n i, be_length]
    have hlt : n / 256 ^ i % 256 < 256 := Nat.mod_lt _ (by omega)
    have e : (n / 256 ^ i % 256).toUInt8.toNat = n / 256 ^ i % 256 := by simp
    rw [e, Nat.pow_succ, Nat.mod_mul]
    simp [Nat.mul_comm]
    omega

theorem be_num : ∀ (l : List UInt8) (n : Nat), be (num l n) l.length = l
  | l, n => by
    induction l generalizing n with
    | nil => rfl
    | cons b l ih =>
      rw [num, List.length_cons, be, ih]
      congr 1
      rw [num_acc]
      have h1 := num_lt l
      have h2 := b.toNat_lt
      rw [Nat.add_comm, Nat.add_mul_div_right _ _ (Nat.pow_pos (by omega)), Nat.div_eq_of_lt h1, Nat.zero_add, Nat.add_comm, Nat.add_mul_mod_self_right, Nat.mod_eq_of_lt h2]
      simp
/-- More bytes of a number: what is ahead of the lowest i. -/
theorem be_div (n : Nat) : ∀ i, be n (i + 1) = be (n / 256) i ++ [(n % 256).toUInt8]
  | 0 => by simp [be]
  | i + 1 => by
    rw [be, be_div n i, be]
    have e : n / 256 ^ (i + 1) = n / 256 / 256 ^ i := by rw [Nat.div_div_eq_div_mul, Nat.pow_succ, Nat.mul_comm]
    rw [e]
    rfl
end Go.Proofs.YtfohgocdabgbgaaDoor
