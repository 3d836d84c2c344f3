/- A walk of the document's own answer: a number in hexadecimal digits. -/
import Derived.Test.YthkjnhihpbomaaaDoorRefFold2
namespace Go.Proofs.YthkjnhihpbomaaaDoor
open Go.RowKit

def digits16 : ByteArray := ⟨#[48, 49, 50, 51, 52, 53, 54, 55, 56, 57, 97, 98, 99, 100, 101, 102]⟩
theorem digits16_size : digits16.size = 16 := by decide
theorem digits16_at (d : Nat) (h : d < 16) : digits16[d]'(by rw [digits16_size]; omega) = hexDig d := by
  match d, h with
  | 0, _ => rfl | 1, _ => rfl | 2, _ => rfl | 3, _ => rfl | 4, _ => rfl | 5, _ => rfl | 6, _ => rfl | 7, _ => rfl
  | 8, _ => rfl | 9, _ => rfl | 10, _ => rfl | 11, _ => rfl | 12, _ => rfl | 13, _ => rfl | 14, _ => rfl | 15, _ => rfl
  | (k + 16), h => omega
theorem idx_dig16 (z : Int) (d : Nat) (hz : z = (d : Int)) (hd : d < 16) (w : World) : (Instr.index 9 (.string ⟨#[48, 49, 50, 51, 52, 53, 54, 55, 56, 57, 97, 98, 99, 100, 101, 102]⟩) (.int .i64 z)).run Tryd.prog w = .ok (.int .u8 ((hexDig d).toNat : Int)) w := by
  subst hz
  show (Instr.index 9 (.string digits16) (.int .i64 (d : Int))).run Tryd.prog w = _
  rw [run_index_string w 9 digits16 .i64 _ Tryd.underlying9, dif_pos ⟨by omega, by rw [digits16_size]; omega⟩]
  have e : ((d : Int)).toNat = d := by omega
  simp only [e]
  rw [digits16_at d hd]

/-- How long a text in a slot is. -/
def strLen : Value → Nat | .string s => s.size | _ => 0

set_option maxHeartbeats 2000000 in
theorem rhex_any (n least : Nat) (hn : n < 4294967296) (hl1 : 1 ≤ least) (hl2 : least ≤ (hexDigits n).length) (w : World) :
    Calls Tryd.prog 42 #[.int .i64 n, .int .i64 least] w fun e w' => e = .returned (.string ⟨(hexDigits n).toArray⟩) ∧ Below w.heap.size w w' := by
  have h8 := (hexDigits_length n).2
  go_enter Tryd.func42, Tryd.ntmps42
  go_wp2
  go_loopw [0, 6] (fun a o wr => ∃ (f m : Nat) (ds : List UInt8), a = .int .i64 m ∧ o = .string ⟨ds.toArray⟩ ∧ Below w.heap.size w wr ∧ m ≤ n ∧ ((m = 0 ∧ ds = hexDigits n) ∨ ((0 < m ∨ ds = []) ∧ hexN f m ++ ds = hexDigits n ∧ m < 16 ^ (f + 1) ∧ ds.length + f = 7))) (fun a o _ => 2 * (intOf a).toNat + (1 - strLen o))
  case atStart => exact ⟨7, n, [], rfl, rfl, Below.refl _ _, Nat.le_refl _, Or.inr ⟨Or.inr rfl, by simp [hexDigits], by omega, rfl⟩⟩
  case round =>
    obtain ⟨f, m, ds, rfl, rfl, hbw, hmn, hrel⟩ := hrel
    have HB := Lib.hid hbw
    clear hbw
    rcases hrel with ⟨rfl, rfl⟩ | ⟨hm, hx, hp, hf⟩
    · have hd : ¬ ((hexDigits n).length : Int) < (least : Int) := by omega
      go_wp2
      go_ret
      exact ⟨rfl, HB.out⟩
    · have hidx := idx_dig16 ((m : Int) % 16) (m % 16) (by omega) (by omega)
      have hcv := conv_new wr [.int .u8 ((hexDig (m % 16)).toNat : Int)] [hexDig (m % 16)] rfl 1 rfl
      have HX := Lib.hid hx
      have HP := Lib.hid hp
      have fin : Hid (∃ (f' m' : Nat) (ds' : List UInt8), m' = m / 16 ∧ ds' = hexDig (m % 16) :: ds ∧ m' ≤ n ∧ ((m' = 0 ∧ ds' = hexDigits n) ∨ ((0 < m' ∨ ds' = []) ∧ hexN f' m' ++ ds' = hexDigits n ∧ m' < 16 ^ (f' + 1) ∧ ds'.length + f' = 7))) := by
        by_cases h16 : m < 16
        · refine ⟨0, m / 16, hexDig (m % 16) :: ds, rfl, rfl, by omega, Or.inl ⟨by omega, ?_⟩⟩
          rw [← hx, hexN_small f m h16, Nat.mod_eq_of_lt h16]; rfl
        · obtain ⟨f, rfl⟩ : ∃ f', f = f' + 1 := ⟨f - 1, by
            rcases Nat.eq_zero_or_pos f with h0 | h0
            · subst h0; omega
            · omega⟩
          rw [Nat.pow_succ] at hp
          refine ⟨f, m / 16, hexDig (m % 16) :: ds, rfl, rfl, by omega, Or.inr ⟨Or.inl (by omega), ?_, by omega, by simp; omega⟩⟩
          rw [← hx, hexN_big f m (by omega)]; simp
      clear hx hp
      by_cases h0 : 0 < m
      · have h0' : 0 < (m : Int) := by omega
        clear hm
        go_wp2
        go_roundw
        case rel =>
          obtain ⟨f', m', ds', e1, e2, e3, e4⟩ := fin.out
          refine ⟨f', m', ds', by rw [e1]; go_num, ?_, HB.out.alloc HB.out.size _, e3, e4⟩
          rw [e2, show (hexDig (m % 16) :: ds) = [hexDig (m % 16)] ++ ds from rfl, ← app_str]
        case measure => simp [intOf, strLen]; omega
      · obtain rfl : m = 0 := by omega
        have hde : ds = [] := by rcases hm with h | h; · omega
                                 · exact h
        subst hde
        clear hm hidx hcv
        have hidx : ∀ W, (Instr.index 9 (.string ⟨#[48, 49, 50, 51, 52, 53, 54, 55, 56, 57, 97, 98, 99, 100, 101, 102]⟩) (.int .i64 0)).run Tryd.prog W = .ok (.int .u8 48) W := fun W => idx_dig16 0 0 rfl (by omega) W
        have hcv := conv_new wr [.int .u8 48] [48] rfl 1 rfl
        have hl1' : 0 < (least : Int) := by omega
        go_wp2
        go_roundw
        case rel =>
          obtain ⟨f', m', ds', e1, e2, e3, e4⟩ := fin.out
          refine ⟨f', m', ds', by rw [e1]; rfl, ?_, HB.out.alloc HB.out.size _, e3, e4⟩
          rw [e2]; rfl
        case measure => simp [intOf, strLen]; decide
end Go.Proofs.YthkjnhihpbomaaaDoor
