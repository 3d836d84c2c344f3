/- Texts as lists of runes and of bytes that are no text; no program in it. -/
import Derived.Test.YthkjnhihpbomaaaDoorPlain2
import Derived.Test.YthkjnhihpbomaaaDoorPlain3
import Derived.Lib.MapLaws
import Derived.Lib.SpaceU
namespace Go.Proofs.YthkjnhihpbomaaaDoor
open Go.RowKit Go.Lib

/-- The rune at a list's head. -/
def decB (l : List UInt8) : Nat × Nat := decodeN l.length (l.getD 0 0).toNat (l.getD 1 0).toNat (l.getD 2 0).toNat (l.getD 3 0).toNat
theorem get_getD (a : ByteArray) (i : Nat) : a.get! i = a.data.toList.getD i 0 := by
  simp [ByteArray.get!, List.getD, getElem!_def]
  cases a.data[i]? <;> rfl
theorem decB_drop (s : ByteArray) (p : Nat) : Utf8.decode s p = decB (s.data.toList.drop p) := by
  rw [decode_at]
  unfold decB
  simp only [get_getD, List.length_drop, ← size_eq, List.getD, List.getElem?_drop, Nat.add_zero]

def cont' (b : UInt8) : Bool := decide (b.toNat / 64 = 2)
/-- The bytes at a list's head that go on with a rune, at most so many. -/
def cpre : Nat → List UInt8 → List UInt8
  | 0, _ => []
  | _ + 1, [] => []
  | n + 1, b :: l => if cont' b then b :: cpre n l else []

set_option maxRecDepth 100000 in
set_option maxHeartbeats 4000000 in
theorem decB_cpre (c : UInt8) (l : List UInt8) : decB (c :: l) = decB (c :: cpre 3 l) := by
  have e : ∀ b : UInt8, cont' b = true ↔ b.toNat / 64 = 2 := fun b => by simp [cont']
  match l with
  | [] => rfl
  | [a] =>
    simp only [cpre]
    by_cases h1 : cont' a = true
    · simp only [h1, if_true]
    · have h1' := mt (e a).2 h1
      simp only [h1]
      simp [decB, decodeN]
      repeat' split
      all_goals first | rfl | (exfalso; omega)
  | [a, b] =>
    simp only [cpre]
    by_cases h1 : cont' a = true
    · by_cases h2 : cont' b = true
      · simp only [h1, h2, if_true]
      · have h2' := mt (e b).2 h2
        simp only [h1, h2, if_true]
        simp [decB, decodeN]
        repeat' split
        all_goals first | rfl | (exfalso; omega)
    · have h1' := mt (e a).2 h1
      simp only [h1]
      simp [decB, decodeN]
      repeat' split
      all_goals first | rfl | (exfalso; omega)
  | a :: b :: d :: t =>
    simp only [cpre]
    by_cases h1 : cont' a = true
    · by_cases h2 : cont' b = true
      · by_cases h3 : cont' d = true
        · simp only [h1, h2, h3, if_true]
          simp [decB, decodeN]
        · have h3' := mt (e d).2 h3
          simp only [h1, h2, h3, if_true]
          simp [decB, decodeN]
          repeat' split
          all_goals first | rfl | (exfalso; omega)
      · have h2' := mt (e b).2 h2
        simp only [h1, h2, if_true]
        simp [decB, decodeN]
        repeat' split
        all_goals first | rfl | (exfalso; omega)
    · have h1' := mt (e a).2 h1
      simp only [h1]
      simp [decB, decodeN]
      repeat' split
      all_goals first | rfl | (exfalso; omega)

theorem decB_eq (l : List UInt8) : decodeL l = decB l := by
  unfold decodeL
  rw [decB_drop]
  simp
def badL (l : List UInt8) : Bool := (decB l).1 == 65533 && (decB l).2 == 1
theorem badL_drop (s : ByteArray) (p : Nat) : bad s p = badL (s.data.toList.drop p) := by
  unfold bad badL
  rw [decB_drop]
theorem enc_dec (l : List UInt8) (hne : l ≠ []) (h : badL l = false) : encodeRune ((decB l).1 : Nat) = l.take (decB l).2 := by
  rw [← decB_eq]
  refine encode_decode l hne ?_
  rw [decB_eq]
  intro hx
  simp [badL, hx.1, hx.2] at h

theorem dec_1 (r : Nat) (l : List UInt8) (h : r < 128) : decB (encodeRune (r : Nat) ++ l) = (r, 1) ∧ (encodeRune (r : Nat)).length = 1 := by
  have he := encodeRuneZ_one (r := r) (by omega) (by omega)
  have e0 : (r : Int).toNat.toUInt8.toNat = r := by simp; omega
  unfold encodeRune
  rw [he]
  refine ⟨?_, rfl⟩
  simp only [List.map_cons, List.map_nil, List.cons_append, List.nil_append, decB, List.getD_cons_zero, e0, decodeN, if_pos h]
set_option maxHeartbeats 2000000 in
theorem dec_2 (r : Nat) (l : List UInt8) (h0 : 128 ≤ r) (h : r < 2048) : decB (encodeRune (r : Nat) ++ l) = (r, 2) ∧ (encodeRune (r : Nat)).length = 2 := by
  have he := encodeRuneZ_two (r := r) (by omega) (by omega)
  have e0 : (192 + (r : Int) / 64).toNat.toUInt8.toNat = 192 + r / 64 := by simp; omega
  have e1 : (128 + (r : Int) % 64).toNat.toUInt8.toNat = 128 + r % 64 := by simp; omega
  unfold encodeRune
  rw [he]
  refine ⟨?_, rfl⟩
  simp only [List.map_cons, List.map_nil, List.cons_append, List.nil_append, decB, List.getD_cons_zero, List.getD_cons_succ, e0, e1, decodeN, List.length_cons]
  rw [if_neg (by omega), if_pos (by omega), if_pos (by omega)]
  apply Prod.ext <;> simp only <;> omega
set_option maxHeartbeats 2000000 in
theorem dec_3 (r : Nat) (l : List UInt8) (h0 : 2048 ≤ r) (h : r < 65536) (hv : ¬ (55296 ≤ r ∧ r ≤ 57343)) : decB (encodeRune (r : Nat) ++ l) = (r, 3) ∧ (encodeRune (r : Nat)).length = 3 := by
  have he := encodeRuneZ_three (r := r) (by omega)
  have e0 : (224 + (r : Int) / 4096).toNat.toUInt8.toNat = 224 + r / 4096 := by simp; omega
  have e1 : (128 + (r : Int) / 64 % 64).toNat.toUInt8.toNat = 128 + r / 64 % 64 := by simp; omega
  have e2 : (128 + (r : Int) % 64).toNat.toUInt8.toNat = 128 + r % 64 := by simp; omega
  unfold encodeRune
  rw [he]
  refine ⟨?_, rfl⟩
  simp only [List.map_cons, List.map_nil, List.cons_append, List.nil_append, decB, List.getD_cons_zero, List.getD_cons_succ, e0, e1, e2, decodeN, List.length_cons]
  rw [if_neg (by omega), if_neg (by omega), if_pos (by omega), if_pos (by omega)]
  apply Prod.ext <;> simp only <;> omega
set_option maxHeartbeats 2000000 in
theorem dec_4 (r : Nat) (l : List UInt8) (h0 : 65536 ≤ r) (h : r ≤ 1114111) : decB (encodeRune (r : Nat) ++ l) = (r, 4) ∧ (encodeRune (r : Nat)).length = 4 := by
  have he := encodeRuneZ_four (r := r) (by omega) (by omega)
  have e0 : (240 + (r : Int) / 262144).toNat.toUInt8.toNat = 240 + r / 262144 := by simp; omega
  have e1 : (128 + (r : Int) / 4096 % 64).toNat.toUInt8.toNat = 128 + r / 4096 % 64 := by simp; omega
  have e2 : (128 + (r : Int) / 64 % 64).toNat.toUInt8.toNat = 128 + r / 64 % 64 := by simp; omega
  have e3 : (128 + (r : Int) % 64).toNat.toUInt8.toNat = 128 + r % 64 := by simp; omega
  unfold encodeRune
  rw [he]
  refine ⟨?_, rfl⟩
  simp only [List.map_cons, List.map_nil, List.cons_append, List.nil_append, decB, List.getD_cons_zero, List.getD_cons_succ, e0, e1, e2, e3, decodeN, List.length_cons]
  rw [if_neg (by omega), if_neg (by omega), if_neg (by omega), if_pos (by omega), if_pos (by omega)]
  apply Prod.ext <;> simp only <;> omega

/-- A rune that a text can have. -/
def okR (r : Nat) : Prop := r ≤ 1114111 ∧ ¬ (55296 ≤ r ∧ r ≤ 57343)
theorem dec_enc (r : Nat) (l : List UInt8) (h : okR r) : decB (encodeRune (r : Nat) ++ l) = (r, (encodeRune (r : Nat)).length) := by
  obtain ⟨h1, h2⟩ := h
  by_cases c1 : r < 128
  · obtain ⟨a, b⟩ := dec_1 r l c1
    rw [a, b]
  by_cases c2 : r < 2048
  · obtain ⟨a, b⟩ := dec_2 r l (by omega) c2
    rw [a, b]
  by_cases c3 : r < 65536
  · obtain ⟨a, b⟩ := dec_3 r l (by omega) c3 h2
    rw [a, b]
  · obtain ⟨a, b⟩ := dec_4 r l (by omega) h1
    rw [a, b]
theorem enc_len (r : Nat) (h : okR r) : (encodeRune (r : Nat)).length = if r < 128 then 1 else if r < 2048 then 2 else if r < 65536 then 3 else 4 := by
  obtain ⟨h1, h2⟩ := h
  by_cases c1 : r < 128
  · rw [(dec_1 r [] c1).2, if_pos c1]
  by_cases c2 : r < 2048
  · rw [(dec_2 r [] (by omega) c2).2, if_neg c1, if_pos c2]
  by_cases c3 : r < 65536
  · rw [(dec_3 r [] (by omega) c3 h2).2, if_neg c1, if_neg c2, if_pos c3]
  · rw [(dec_4 r [] (by omega) h1).2, if_neg c1, if_neg c2, if_neg c3]
/-- A rune's first byte goes on with none. -/
theorem enc_head (r : Nat) (h : okR r) (n : Nat) (l : List UInt8) : cpre n (encodeRune (r : Nat) ++ l) = [] := by
  cases n with
  | zero => rfl
  | succ n =>
    obtain ⟨h1, h2⟩ := h
    have key : ∀ (x : Int) (t : List Int), encodeRuneZ r = x :: t → (0 ≤ x ∧ x < 256 ∧ ¬ x / 64 = 2) → cpre (n + 1) (encodeRune (r : Nat) ++ l) = [] := by
      intro x t hx hb
      unfold encodeRune
      rw [hx]
      simp only [List.map_cons, List.cons_append, cpre]
      rw [if_neg]
      simp only [cont', decide_eq_true_eq]
      have : x.toNat.toUInt8.toNat = x.toNat := by simp; omega
      rw [this]; omega
    by_cases c1 : r < 128
    · exact key _ _ (encodeRuneZ_one (r := r) (by omega) (by omega)) (by omega)
    by_cases c2 : r < 2048
    · exact key _ _ (encodeRuneZ_two (r := r) (by omega) (by omega)) (by omega)
    by_cases c3 : r < 65536
    · exact key _ _ (encodeRuneZ_three (r := r) (by omega)) (by omega)
    · exact key _ _ (encodeRuneZ_four (r := r) (by omega) (by omega)) (by omega)
end Go.Proofs.YthkjnhihpbomaaaDoor
