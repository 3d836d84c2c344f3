/- Walks: strings.IndexByte, Code, Put. -/
import Derived.Test.YtlfnjdgfllhepaaHNew
import Derived.Laws.Externs
namespace Go.Proofs.Ytlfnjdgfllhepaa
open Go.RowKit

theorem firstIdx_some (s : ByteArray) (b : UInt8) (i : Nat) (hi : i < s.size) (h : s[i] = b) (hn : s.data.toList.Nodup) : firstIdx s b = i := by
  unfold firstIdx
  have e : ((List.range s.size).find? fun j => s[j]! == b) = some i := by
    rw [List.find?_range_eq_some]
    refine ⟨?_, List.mem_range.2 hi, fun j hj => ?_⟩
    · rw [beq_iff_eq, getElem!_pos s i hi, h]
    · have hj' : j < s.size := by omega
      rw [Bool.not_eq_true', beq_eq_false_iff_ne, getElem!_pos s j hj']
      intro e
      exact List.pairwise_iff_getElem.1 hn j i (by simpa using hj') (by simpa using hi) hj (e.trans h.symm)
  rw [e]
theorem firstIdx_none (s : ByteArray) (b : UInt8) (h : b ∉ s.data.toList) : firstIdx s b = -1 := by
  unfold firstIdx
  have e : ((List.range s.size).find? fun j => s[j]! == b) = none := by
    rw [List.find?_range_eq_none]
    intro j hj
    rw [Bool.not_eq_true', beq_eq_false_iff_ne, getElem!_pos s j hj]
    intro e
    exact h (e ▸ List.getElem_mem (l := s.data.toList) (n := j) (by simpa using hj))
  rw [e]

set_option maxHeartbeats 1000000 in
theorem IndexByte_any (s : ByteArray) (b : Nat) (w : World) : Calls Try.prog 24 #[.string s, .int .u8 b] w fun e w' => e = .returned (.int .i64 (firstIdx s b.toUInt8)) ∧ w = w' := by
  have h42 : Calls Try.prog 36 #[.string s, .int .u8 b] w fun e w' => e = .returned (.int .i64 (firstIdx s b.toUInt8)) ∧ w = w' := by
    go_enter Try.func36, Try.ntmps36
    go_wp2
    rw [run_callFunc_extern Try.func42 (by kernel_rfl) (by kernel_rfl) (by kernel_rfl) (e := Extern.BytealgIndexByte.indexByte) (by kernel_rfl), run_indexByte_string]
    simp only [Result.andThen, Int.toNat_natCast]
    rw [Oper.upon_value]
    go_wp2
    go_ret
    exact ⟨rfl, rfl⟩
  have H := Lib.hid h42
  clear h42
  go_enter Try.func24, Try.ntmps24
  go_wp2_with (go_at_call 36; refine H.out.mono ?_; rintro e w' ⟨rfl, rfl⟩)
  go_ret
  exact ⟨rfl, rfl⟩

theorem ret_code {a b c d : Int} {p : Bool} (h1 : a = c) (h2 : b = d) : Ending.returned (.tuple #[.int .i64 a, .int .i64 b, .bool p]) = .returned (.tuple #[.int .i64 c, .int .i64 d, .bool p]) := by rw [h1, h2]
set_option maxHeartbeats 400000 in
theorem Code_nil (z : Int) (w : World) : Calls Try.prog 12 #[.pointer none, .int .i64 z] w fun e w' => e = .returned (.tuple #[.int .i64 0, .int .i64 0, .bool false]) ∧ w = w' := by
  go_enter Try.func12, Try.ntmps12
  go_wp2
  go_ret3
  exact ⟨rfl, rfl⟩
set_option maxHeartbeats 400000 in
theorem Code_out (k : Nat) (z : Int) (hz : z < 0 ∨ 256 ≤ z) (w : World) : Calls Try.prog 12 #[.pointer (some ⟨k, 0, none⟩), .int .i64 z] w fun e w' => e = .returned (.tuple #[.int .i64 0, .int .i64 0, .bool false]) ∧ w = w' := by
  rcases hz with h | h
  · go_enter Try.func12, Try.ntmps12
    go_wp2
    go_ret3
    exact ⟨rfl, rfl⟩
  · have h1 : ¬ z < 0 := by omega
    go_enter Try.func12, Try.ntmps12
    go_wp2
    go_ret3
    exact ⟨rfl, rfl⟩
set_option maxHeartbeats 400000 in
theorem Code_no (k : Nat) (c : Nat → Nat) (s : ByteArray) (x : Nat) (hx : x < 256) (hn : x.toUInt8 ∉ s.data.toList) (w : World) (h : Tbl k c s w) :
    Calls Try.prog 12 #[.pointer (some ⟨k, 0, none⟩), .int .i64 x] w fun e w' => e = .returned (.tuple #[.int .i64 0, .int .i64 0, .bool false]) ∧ w = w' := by
  have h1 := h.text
  have hI := IndexByte_any s x w
  rw [firstIdx_none s _ hn] at hI
  have HI := Lib.hid hI
  have e1 : ¬ (256 : Int) ≤ (x : Int) := by omega
  clear h hI hn
  go_enter Try.func12, Try.ntmps12
  go_wp2_with (go_at_call 24; refine HI.out.mono ?_; rintro e w' ⟨rfl, rfl⟩)
  go_ret3
  exact ⟨rfl, rfl⟩
set_option maxHeartbeats 1000000 in
theorem Code_yes (k : Nat) (c : Nat → Nat) (hc : ∀ i, c i < 256) (s : ByteArray) (hR : Right c s.data.toList) (i : Nat) (hi : i < s.size) (w : World) (h : Tbl k c s w) :
    Calls Try.prog 12 #[.pointer (some ⟨k, 0, none⟩), .int .i64 s[i].toNat] w fun e w' => e = .returned (.tuple #[.int .i64 (codeN c i), .int .i64 (codeL c i), .bool true]) ∧ w = w' := by
  have h1 := h.text
  have hI := IndexByte_any s s[i].toNat w
  have hb : s[i].toNat < 256 := s[i].toNat_lt
  rw [firstIdx_some s _ i hi (by simp) hR.once] at hI
  have HI := Lib.hid hI
  have hlt : i < off c 16 := by rw [hR.sum]; simpa using hi
  have hfew : s.size ≤ 256 := by have := hR.few; simpa using this
  obtain ⟨l1, l2, l3⟩ := lvl_spec c i hlt
  have HN := Lib.hid (show codeN c i = fst c (lvl c i) + (i - off c (lvl c i)) from rfl)
  have HL := Lib.hid (show codeL c i = lvl c i + 1 from rfl)
  generalize codeN c i = X at *
  generalize codeL c i = Y at *
  generalize lvl c i = m at *
  have HCC := Lib.hid hc
  have HT := Lib.hid h
  clear h hI hR hc hlt
  have e1 : ¬ (256 : Int) ≤ (s[i].toNat : Int) := by omega
  generalize s[i].toNat = x at *
  have HL2 := Lib.hid l2
  have HL3 := Lib.hid l3
  clear l2 l3
  go_enter Try.func12, Try.ntmps12
  go_wp2_with fail
  go_at_call 24
  refine HI.out.mono ?_
  rintro e w' ⟨rfl, rfl⟩
  clear e1 hb
  go_wp2
  go_loop [7, 8, 30] (fun a f n => ∃ j : Nat, j ≤ m ∧ n = .int .i64 j ∧ a = .int .i64 (i - off c j : Nat) ∧ f = .int .i64 (fst c j : Nat)) (fun _ _ n => 16 - (intOf n).toNat)
  case atStart => exact ⟨0, by omega, rfl, rfl, rfl⟩
  case round =>
    obtain ⟨j, hj, rfl, rfl, rfl⟩ := hrel
    have x0 := HT.out.count (i := j) (by omega)
    have hcj := HCC.out j
    have hfj := fst_16 c HCC.out j (by omega)
    have ho := off_le c hj
    have l2 := HL2.out
    have l3 := HL3.out
    by_cases e : j = m
    · subst e
      generalize fst c j = F at *
      generalize off c j = O at *
      generalize c j = d at *
      go_wp2
      go_ret3
      exact ⟨ret_code (by rw [HN.out]; omega) (by rw [HL.out]; omega), rfl⟩
    · have ho1 : off c (j + 1) ≤ i := Nat.le_trans (off_le c (show j + 1 ≤ m by omega)) l2
      have HO : Hid (off c (j + 1) = off c j + c j) := rfl
      have HF : Hid (fst c (j + 1) = 2 * (fst c j + c j)) := rfl
      rw [show off c (j + 1) = off c j + c j from rfl] at ho1
      generalize fst c j = F at *
      generalize off c j = O at *
      generalize c j = d at *
      go_wp2_with (go_at_call 25; refine (after_any F d (by omega) (by omega) _).mono ?_; rintro e w' ⟨rfl, rfl⟩)
      go_round
      case rel => exact ⟨j + 1, by omega, by go_num, by rw [HO.out]; go_num, by rw [HF.out]; go_num⟩
      case measure => simp [intOf]; omega

/-- What Put puts. -/
theorem put_code {c : Nat → Nat} {y : List UInt8} (h : Right c y) {i : Nat} (hi : i < y.length) : putErr (codeN c i) (codeL c i) = 0 ∧ putBits (codeN c i) (codeL c i) = cbits c i := by
  have h1 := code_lt h hi
  have h2 := codeL_le h hi
  unfold putErr putBits cbits
  simp only [Int.toNat_natCast]
  rw [if_neg (by omega), if_neg (by omega), if_neg (by omega), if_neg (by omega)]
  exact ⟨rfl, rfl⟩
end Go.Proofs.Ytlfnjdgfllhepaa
