/- What was put, one behind the other: plain facts. -/
import Derived.Test.YtdfanplihheofaaAwake
import Derived.Lib.Strings
namespace Go.Proofs.Ytdfanplihheofaa
open Go.RowKit

def okP (m x : Int) : Bool := (putted x m).2 == 0
def goods (m : Int) (l : List Int) : List Int := l.filter (okP m)
def bytesOf (m x : Int) : List UInt8 := (putted x m).1.data.toList
def textOf (m : Int) (l : List Int) : List UInt8 := l.flatMap (bytesOf m)

theorem okP_iff (m x : Int) : okP m x = true ↔ (1 ≤ m ∧ m ≤ 4) ∧ 0 ≤ x ∧ x < ((256 ^ m.toNat : Nat) : Int) := by
  unfold okP putted
  generalize 256 ^ m.toNat = q
  split
  · simp; omega
  · split
    · simp; omega
    · simp; omega
theorem bytesOf_ok (m x : Int) (h : okP m x = true) : bytesOf m x = be x.toNat m.toNat := by
  have := (okP_iff m x).1 h
  unfold bytesOf putted
  rw [if_neg (by omega), if_neg (by omega)]
theorem bytesOf_length (m x : Int) (h : okP m x = true) : (bytesOf m x).length = m.toNat := by rw [bytesOf_ok m x h, be_length]
theorem goods_snoc (m : Int) (l : List Int) (x : Int) : goods m (l ++ [x]) = goods m l ++ if okP m x then [x] else [] := by
  unfold goods
  rw [List.filter_append]
  congr 1
  cases h : okP m x <;> simp [h]
theorem goods_ok (m : Int) (l : List Int) : ∀ x ∈ goods m l, okP m x = true := fun _ hx => (List.mem_filter.1 hx).2
theorem textOf_snoc (m : Int) (l : List Int) (x : Int) : textOf m (l ++ [x]) = textOf m l ++ bytesOf m x := by simp [textOf]
theorem textOf_length (m : Int) : ∀ (l : List Int), (∀ x ∈ l, okP m x = true) → (textOf m l).length = l.length * m.toNat
  | [], _ => by simp [textOf]
  | x :: l, h => by
    have h1 := textOf_length m l fun y hy => h y (List.mem_cons_of_mem _ hy)
    have h2 := bytesOf_length m x (h x (List.mem_cons_self ..))
    simp only [textOf, List.flatMap_cons, List.length_append, List.length_cons] at h1 ⊢
    rw [h1, h2, Nat.succ_mul, Nat.add_comm]
/-- The bytes of the number at a place. -/
theorem textOf_at (m : Int) : ∀ (l : List Int) (_ : ∀ x ∈ l, okP m x = true) (k : Nat) (hk : k < l.length), ((textOf m l).drop (k * m.toNat)).take m.toNat = bytesOf m l[k]
  | x :: l, h, 0, _ => by
    have h2 := bytesOf_length m x (h x (List.mem_cons_self ..))
    simp only [textOf, List.flatMap_cons, Nat.zero_mul, List.drop_zero, List.getElem_cons_zero]
    rw [← h2, List.take_left' rfl]
  | x :: l, h, k + 1, hk => by
    have h2 := bytesOf_length m x (h x (List.mem_cons_self ..))
    have ih := textOf_at m l (fun y hy => h y (List.mem_cons_of_mem _ hy)) k (by simpa using hk)
    simp only [textOf, List.flatMap_cons, List.getElem_cons_succ] at ih ⊢
    rw [Nat.succ_mul, Nat.add_comm, ← h2, ← List.drop_drop, List.drop_left' rfl, h2]
    exact ih

theorem extract_at (m : Int) (l : List Int) (h : ∀ x ∈ l, okP m x = true) (k : Nat) (hk : k < l.length) :
    (⟨(textOf m l).toArray⟩ : ByteArray).extract (k * m.toNat) (k * m.toNat + m.toNat) = (putted l[k] m).1 := by
  have h1 := textOf_at m l h k hk
  apply ByteArray.ext
  apply Array.toList_inj.1
  rw [Lib.extract_data]
  simp only [Nat.add_sub_cancel_left]
  exact h1

/-- The number at a place is read again. -/
theorem numbered_at (m : Nat) (h1 : 1 ≤ m) (h4 : m ≤ 4) (s : ByteArray) (a : Nat) (ha : a + m ≤ s.size) (x : Int) (h0 : 0 ≤ x) (hx : x < ((256 ^ m : Nat) : Int)) (he : s.extract a (a + m) = ⟨(be x.toNat m).toArray⟩) :
    numbered s a (m : Int) = (x.toNat, a + m, 0) := by
  have ht : taken s a (m : Int) = (s.extract a (a + m), a + m, 0) := by
    unfold taken
    rw [if_neg (by omega), if_neg (by omega)]
    simp
  unfold numbered
  rw [if_neg (by omega), ht, he]
  simp only [num_be]
  rw [Nat.mod_eq_of_lt (by omega)]
theorem putted_ok (m : Nat) (h1 : 1 ≤ m) (h4 : m ≤ 4) (x : Int) (h0 : 0 ≤ x) (hx : x < ((256 ^ m : Nat) : Int)) : putted x (m : Int) = (⟨(be x.toNat m).toArray⟩, 0) := by
  unfold putted
  rw [if_neg (by omega), if_neg (by simp only [Int.toNat_natCast]; omega)]
  rfl
end Go.Proofs.Ytdfanplihheofaa
