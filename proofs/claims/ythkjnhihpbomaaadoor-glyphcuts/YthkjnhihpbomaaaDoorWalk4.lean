/- Walks of package glyph: Count, Cut. -/
import Derived.Test.YthkjnhihpbomaaaDoorWalk
import Derived.Test.YthkjnhihpbomaaaDoorPlain2
namespace Go.Proofs.YthkjnhihpbomaaaDoor
open Go.RowKit

set_option maxHeartbeats 1000000 in
theorem Count_any (s : ByteArray) (hs : s.size ≤ 1000000) (w : World) :
    Calls Tryd.prog 16 #[.string s] w fun e w' => e = .returned (.int .i64 (count s : Nat)) ∧ Below w.heap.size w w' := by
  go_enter Tryd.func16, Tryd.ntmps16
  go_wp2
  go_loopw [3] (fun v wr => ∃ (pos f k : Nat), v = .int .i64 k ∧ wr.heap[w.heap.size]? = some (.stringIter s pos) ∧ Below w.heap.size w wr ∧ k + cntFrom s f pos = count s ∧ s.size ≤ pos + f ∧ k ≤ pos ∧ pos ≤ s.size) (fun _ wr => s.size - wr.iterPos w.heap.size)
  case atStart =>
    exact ⟨0, s.size, 0, rfl, World.iter_heap w s 0, (Below.refl _ _).alloc (Nat.le_refl _) _, by simp [count], by omega, by omega, by omega⟩
  case round =>
    obtain ⟨pos, f, k, rfl, hit, hbw, hacc, hfu, hal, hps⟩ := hrel
    have Ha := Lib.hid hacc
    have HI := Lib.hid hit
    have HB := Lib.hid hbw
    clear hacc hbw
    by_cases hp : pos < s.size
    · have hnx : ∀ ty, (Instr.next (.pointer (some ⟨w.heap.size, 0, none⟩)) true ty).run Tryd.prog wr = _ := fun ty => Lib.run_next_any_at wr w.heap.size s pos ty hit hp
      clear hit
      have hwd := width_pos s pos hp
      have hwl := width_le s pos hp
      have HI2 := Lib.hid (Lib.iterAt_heap wr w.heap.size s pos (pos + (Utf8.decode s pos).2) HI.out)
      have HB2 := Lib.hid (Lib.below_iterAt HB.out (k := w.heap.size) (Nat.le_refl _) s (pos + (Utf8.decode s pos).2))
      obtain ⟨f, rfl⟩ : ∃ f', f = f' + 1 := ⟨f - 1, by omega⟩
      go_wp2
      go_roundw
      case rel =>
        refine ⟨pos + (Utf8.decode s pos).2, f, k + 1, by go_num, HI2.out, HB2.out, ?_, by omega, by omega, hwl⟩
        rw [← Ha.out, cntFrom_on s f pos hp]; omega
      case measure =>
        simp only [World.iterPos, HI2.out, HI.out]
        omega
    · have hnx : ∀ ty, (Instr.next (.pointer (some ⟨w.heap.size, 0, none⟩)) true ty).run Tryd.prog wr = _ := fun ty => Lib.run_next_end_at wr w.heap.size s pos ty hit hp
      have hfin : k = count s := by rw [← Ha.out, cntFrom_end s f pos hp]; rfl
      clear hit
      have Hf := Lib.hid hfin
      clear hfin
      go_wp2
      go_ret
      exact ⟨ret_int (by rw [Hf.out]), HB.out⟩

set_option maxHeartbeats 1000000 in
theorem Cut_any (s : ByteArray) (hs : s.size ≤ 1000000) (n : Int) (w : World) :
    Calls Tryd.prog 15 #[.string s, .int .i64 n] w fun e w' => e = .returned (.string (cut s n)) ∧ Below w.heap.size w w' := by
  by_cases hn : (s.size : Int) ≤ n
  · rw [cut_all s n hn]
    go_enter Tryd.func15, Tryd.ntmps15
    go_wp2
    go_ret
    exact ⟨rfl, Below.refl _ _⟩
  · go_enter Tryd.func15, Tryd.ntmps15
    go_wp2
    go_loopw [5] (fun v wr => ∃ (pos f k : Nat), v = .int .i64 k ∧ wr.heap[w.heap.size]? = some (.stringIter s pos) ∧ Below w.heap.size w wr ∧ (if (pos : Int) ≤ n then cutFrom s n f pos else k) = cutEnd s n ∧ s.size ≤ pos + f ∧ k ≤ s.size ∧ pos ≤ s.size) (fun _ wr => s.size - wr.iterPos w.heap.size)
    case atStart =>
      refine ⟨0, s.size, 0, rfl, World.iter_heap w s 0, (Below.refl _ _).alloc (Nat.le_refl _) _, ?_, by omega, by omega, by omega⟩
      split
      · rfl
      · rename_i h
        unfold cutEnd
        cases hz : s.size with
        | zero => rfl
        | succ z =>
          rw [cutFrom_off s n z 0 (by omega)]
    case round =>
      obtain ⟨pos, f, k, rfl, hit, hbw, hacc, hfu, hal, hps⟩ := hrel
      have Ha := Lib.hid hacc
      have HI := Lib.hid hit
      have HB := Lib.hid hbw
      clear hacc hbw
      by_cases hp : pos < s.size
      · have hnx : ∀ ty, (Instr.next (.pointer (some ⟨w.heap.size, 0, none⟩)) true ty).run Tryd.prog wr = _ := fun ty => Lib.run_next_any_at wr w.heap.size s pos ty hit hp
        clear hit
        have hwd := width_pos s pos hp
        have hwl := width_le s pos hp
        have HI2 := Lib.hid (Lib.iterAt_heap wr w.heap.size s pos (pos + (Utf8.decode s pos).2) HI.out)
        have HB2 := Lib.hid (Lib.below_iterAt HB.out (k := w.heap.size) (Nat.le_refl _) s (pos + (Utf8.decode s pos).2))
        obtain ⟨f, rfl⟩ : ∃ f', f = f' + 1 := ⟨f - 1, by omega⟩
        by_cases hpn : (pos : Int) ≤ n
        · go_wp2
          go_roundw
          case rel =>
            refine ⟨pos + (Utf8.decode s pos).2, f, pos, rfl, HI2.out, HB2.out, ?_, by omega, by omega, hwl⟩
            rw [← Ha.out, if_pos hpn]
            split
            · rename_i h; rw [cutFrom_on s n f pos hp h]
            · rename_i h; rw [cutFrom_off s n f pos h]
          case measure =>
            simp only [World.iterPos, HI2.out, HI.out]
            omega
        · have hk : k = cutEnd s n := by rw [← Ha.out, if_neg hpn]
          have Hk := Lib.hid hk
          clear hk
          go_wp2
          go_ret
          refine ⟨?_, HB2.out⟩
          unfold cut
          rw [← Hk.out]
          rfl
      · have hnx : ∀ ty, (Instr.next (.pointer (some ⟨w.heap.size, 0, none⟩)) true ty).run Tryd.prog wr = _ := fun ty => Lib.run_next_end_at wr w.heap.size s pos ty hit hp
        have hk : k = cutEnd s n := by rw [← Ha.out, if_neg (by omega)]
        have Hk := Lib.hid hk
        clear hk hit
        go_wp2
        go_ret
        refine ⟨?_, HB.out⟩
        unfold cut
        rw [← Hk.out]
        rfl
end Go.Proofs.YthkjnhihpbomaaaDoor
