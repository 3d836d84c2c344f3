/- Walks of the document's own answers: Count, Cut. -/
import Derived.Test.YthkjnhihpbomaaaDoorRefRune2
import Derived.Test.YthkjnhihpbomaaaDoorPlain2
namespace Go.Proofs.YthkjnhihpbomaaaDoor
open Go.RowKit

set_option maxHeartbeats 1000000 in
theorem rCount_any (s : ByteArray) (hs : s.size ≤ 1000000) (w : World) :
    Calls Tryd.prog 25 #[.string s] w fun e w' => e = .returned (.int .i64 (count s : Nat)) ∧ w' = w := by
  go_enter Tryd.func25, Tryd.ntmps25
  go_wp2
  go_loopw [3, 4] (fun k i wr => ∃ (pos f c : Nat), k = .int .i64 c ∧ i = .int .i64 pos ∧ wr = w ∧ c + cntFrom s f pos = count s ∧ s.size ≤ pos + f ∧ c ≤ pos ∧ pos ≤ s.size) (fun _ i _ => s.size - (intOf i).toNat)
  case atStart => exact ⟨0, s.size, 0, rfl, rfl, rfl, by simp [count], by omega, by omega, by omega⟩
  case round =>
    obtain ⟨pos, f, c, rfl, rfl, hw, hacc, hfu, hal, hps⟩ := hrel
    subst hw
    have Ha := Lib.hid hacc
    clear hacc
    by_cases hp : pos < s.size
    · have hwd := width_pos s pos hp
      have hwl := width_le s pos hp
      obtain ⟨f, rfl⟩ : ∃ f', f = f' + 1 := ⟨f - 1, by omega⟩
      have HR := Lib.hid (Rune_any s hs pos hp wr)
      go_wp2_with (go_at_call 38; refine HR.out.mono ?_; rintro e w' ⟨rfl, rfl⟩)
      go_roundw
      case rel =>
        refine ⟨pos + (Utf8.decode s pos).2, f, c + 1, by go_num, by go_num, trivial, ?_, by omega, by omega, hwl⟩
        rw [← Ha.out, cntFrom_on s f pos hp]; omega
      case measure => simp [intOf]; omega
    · have hfin : c = count s := by rw [← Ha.out, cntFrom_end s f pos hp]; rfl
      have Hf := Lib.hid hfin
      clear hfin
      go_wp2
      go_ret
      exact ⟨ret_int (by rw [Hf.out]), rfl⟩

set_option maxHeartbeats 1000000 in
theorem rCut_any (s : ByteArray) (hs : s.size ≤ 1000000) (n : Int) (w : World) :
    Calls Tryd.prog 26 #[.string s, .int .i64 n] w fun e w' => e = .returned (.string (cut s n)) ∧ w' = w := by
  go_enter Tryd.func26, Tryd.ntmps26
  go_wp2
  go_loopw [5] (fun i wr => ∃ (pos f : Nat), i = .int .i64 pos ∧ wr = w ∧ cutFrom s n f pos = cutEnd s n ∧ s.size ≤ pos + f ∧ pos ≤ s.size) (fun i _ => s.size - (intOf i).toNat)
  case atStart => exact ⟨0, s.size, rfl, rfl, rfl, by omega, by omega⟩
  case round =>
    obtain ⟨pos, f, rfl, hw, hacc, hfu, hps⟩ := hrel
    subst hw
    have Ha := Lib.hid hacc
    clear hacc
    by_cases hp : pos < s.size
    · have hwd := width_pos s pos hp
      have hwl := width_le s pos hp
      obtain ⟨f, rfl⟩ : ∃ f', f = f' + 1 := ⟨f - 1, by omega⟩
      have HR := Lib.hid (Rune_any s hs pos hp wr)
      by_cases hn : ((pos + (Utf8.decode s pos).2 : Nat) : Int) ≤ n
      · have hn' : (pos : Int) + ((Utf8.decode s pos).2 : Int) ≤ n := by omega
        have hc := cutFrom_on s n f pos hp hn
        have Hc := Lib.hid hc
        clear hc hn
        go_wp2_with (go_at_call 38; refine HR.out.mono ?_; rintro e w' ⟨rfl, rfl⟩)
        go_roundw
        case rel =>
          refine ⟨pos + (Utf8.decode s pos).2, f, by go_num, trivial, ?_, by omega, hwl⟩
          rw [← Ha.out, Hc.out]
        case measure => simp [intOf]; omega
      · have hn' : n < (pos : Int) + ((Utf8.decode s pos).2 : Int) := by omega
        have hk : pos = cutEnd s n := by rw [← Ha.out, cutFrom_off s n f pos hn]
        have Hk := Lib.hid hk
        clear hk hn
        go_wp2_with (go_at_call 38; refine HR.out.mono ?_; rintro e w' ⟨rfl, rfl⟩)
        go_ret
        refine ⟨?_, rfl⟩
        unfold cut
        rw [← Hk.out]
        rfl
    · have hk : pos = cutEnd s n := by rw [← Ha.out, cutFrom_end s n f pos hp]
      have Hk := Lib.hid hk
      clear hk
      go_wp2
      go_ret
      refine ⟨?_, rfl⟩
      unfold cut
      rw [← Hk.out]
      rfl
end Go.Proofs.YthkjnhihpbomaaaDoor
