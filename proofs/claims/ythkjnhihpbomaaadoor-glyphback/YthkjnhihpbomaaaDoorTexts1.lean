/- Walks: Valid, Name, Note of package glyph. -/
import Derived.Test.YthkjnhihpbomaaaDoorRunes
namespace Go.Proofs.YthkjnhihpbomaaaDoor
open Go.RowKit

set_option maxHeartbeats 1000000 in
theorem Valid_any (s : ByteArray) (hs : s.size ≤ 1000000) (w : World) (B : Nat) (hT : Tabs B w) :
    Calls Tryd.prog 14 #[.string s] w fun e w' => e = .returned (.bool (valid s)) ∧ Below w.heap.size w w' := by
  have HT := Lib.hid hT.top
  clear hT
  go_enter Tryd.func14, Tryd.ntmps14
  go_wp2
  go_loopw [] (fun wr => ∃ (pos f : Nat), wr.heap[w.heap.size]? = some (.stringIter s pos) ∧ Below w.heap.size w wr ∧ validFrom s f pos = valid s ∧ s.size ≤ pos + f ∧ pos ≤ s.size) (fun wr => s.size - wr.iterPos w.heap.size)
  case atStart => exact ⟨0, s.size, World.iter_heap w s 0, (Below.refl _ _).alloc (Nat.le_refl _) _, rfl, by omega, by omega⟩
  case round =>
    obtain ⟨pos, f, hit, hbw, hacc, hfu, hps⟩ := hrel
    have Ha := Lib.hid hacc
    have HI := Lib.hid hit
    have HB := Lib.hid hbw
    clear hacc hbw
    by_cases hp : pos < s.size
    · have hnx : ∀ ty, (Instr.next (.pointer (some ⟨w.heap.size, 0, none⟩)) true ty).run Tryd.prog wr = _ := fun ty => Lib.run_next_any_at wr w.heap.size s pos ty hit hp
      clear hit
      have hwd := width_pos s pos hp
      have hwl := width_le s pos hp
      have HI2 := Lib.hid (Lib.iterAt_heap wr w.heap.size s pos (pos + (Utf8.decode s pos).2) HI.out)
      have HB2 := Lib.hid (Lib.below_iterAt HB.out (k := w.heap.size) (Nat.le_refl _) s (pos + (Utf8.decode s pos).2))
      have HT2 := Lib.hid (HT.out.on HB2.out)
      obtain ⟨f, rfl⟩ : ∃ f', f = f' + 1 := ⟨f - 1, by omega⟩
      have hv := validFrom_on s f pos hp
      cases hbd : bad s pos
      · have hbr := broken_any s pos hp hs (wr.iterAt w.heap.size s (pos + (Utf8.decode s pos).2)) HT2.out.utf0
        rw [hbd] at hv hbr
        have Hv := Lib.hid hv
        have Hbr := Lib.hid hbr
        clear hv hbr hbd
        go_wp2_with (go_at_call 29; refine Hbr.out.mono ?_; rintro e W1 ⟨rfl, hb1⟩)
        have HI3 := Lib.hid ((hb1.block w.heap.size (Array.getElem?_eq_some_iff.1 HI2.out).1).trans HI2.out)
        have HB3 := Lib.hid (HB2.out.trans (hb1.mono HB2.out.size))
        clear hb1
        go_roundw
        case rel => exact ⟨pos + (Utf8.decode s pos).2, f, HI3.out, HB3.out, by rw [← Ha.out, Hv.out]; rfl, by omega, hwl⟩
        case measure =>
          simp only [World.iterPos, HI3.out, HI.out]
          omega
      · have hbr := broken_any s pos hp hs (wr.iterAt w.heap.size s (pos + (Utf8.decode s pos).2)) HT2.out.utf0
        rw [hbd] at hv hbr
        have Hv : Hid (valid s = false) := by rw [← Ha.out, hv]; rfl
        have Hbr := Lib.hid hbr
        clear hv hbr hbd
        go_wp2_with (go_at_call 29; refine Hbr.out.mono ?_; rintro e W1 ⟨rfl, hb1⟩)
        go_ret
        exact ⟨ret_bool Hv.out.symm, HB2.out.trans (hb1.mono HB2.out.size)⟩
    · have hnx : ∀ ty, (Instr.next (.pointer (some ⟨w.heap.size, 0, none⟩)) true ty).run Tryd.prog wr = _ := fun ty => Lib.run_next_end_at wr w.heap.size s pos ty hit hp
      have Hf : Hid (valid s = true) := by rw [← Ha.out, validFrom_end s f pos hp]; rfl
      clear hit
      go_wp2
      go_ret
      exact ⟨ret_bool Hf.out.symm, HB.out⟩

set_option maxHeartbeats 1000000 in
theorem Name_any (s : ByteArray) (_hs : s.size ≤ 1000000) (w : World) :
    Calls Tryd.prog 18 #[.string s] w fun e w' => e = .returned (.bool (name s)) ∧ Below w.heap.size w w' := by
  go_enter Tryd.func18, Tryd.ntmps18
  go_wp2
  go_loopw [3] (fun v wr => ∃ (pos f k : Nat), v = .int .i64 k ∧ wr.heap[w.heap.size]? = some (.stringIter s pos) ∧ Below w.heap.size w wr ∧ nameFrom s f pos k = name s ∧ s.size ≤ pos + f ∧ pos ≤ s.size ∧ k ≤ 24) (fun _ wr => s.size - wr.iterPos w.heap.size)
  case atStart => exact ⟨0, s.size, 0, rfl, World.iter_heap w s 0, (Below.refl _ _).alloc (Nat.le_refl _) _, rfl, by omega, by omega, by omega⟩
  case round =>
    obtain ⟨pos, f, k, rfl, hit, hbw, hacc, hfu, hps, hk⟩ := hrel
    have Ha := Lib.hid hacc
    have HI := Lib.hid hit
    have HB := Lib.hid hbw
    clear hacc hbw
    by_cases hp : pos < s.size
    · have hnx : ∀ ty, (Instr.next (.pointer (some ⟨w.heap.size, 0, none⟩)) true ty).run Tryd.prog wr = _ := fun ty => Lib.run_next_any_at wr w.heap.size s pos ty hit hp
      clear hit
      have hwd := width_pos s pos hp
      have hwl := width_le s pos hp
      have hrl := rune_le s pos
      have HI2 := Lib.hid (Lib.iterAt_heap wr w.heap.size s pos (pos + (Utf8.decode s pos).2) HI.out)
      have HB2 := Lib.hid (Lib.below_iterAt HB.out (k := w.heap.size) (Nat.le_refl _) s (pos + (Utf8.decode s pos).2))
      obtain ⟨f, rfl⟩ : ∃ f', f = f' + 1 := ⟨f - 1, by omega⟩
      have hv := nameFrom_on s f pos k hp
      by_cases hk24 : k = 24
      · subst hk24
        have Hv : Hid (name s = false) := by rw [← Ha.out, hv, nameFrom_big s f _ 25 (by omega), Bool.and_false]; rfl
        clear hv
        go_wp2
        go_ret
        exact ⟨ret_bool Hv.out.symm, HB2.out⟩
      · have hk24' : ¬ (24 < (k : Int) + 1) := by omega
        have hnr := nameRune_any (Utf8.decode s pos).1 hrl (wr.iterAt w.heap.size s (pos + (Utf8.decode s pos).2))
        cases hnm : nameR (Utf8.decode s pos).1
        · rw [hnm] at hv hnr
          have Hv : Hid (name s = false) := by rw [← Ha.out, hv]; rfl
          have Hn := Lib.hid hnr
          clear hv hnr hnm
          go_wp2_with (go_at_call 36; refine Hn.out.mono ?_; rintro e W1 ⟨rfl, rfl⟩)
          go_ret
          exact ⟨ret_bool Hv.out.symm, HB2.out⟩
        · rw [hnm] at hv hnr
          have Hv := Lib.hid hv
          have Hn := Lib.hid hnr
          clear hv hnr hnm
          go_wp2_with (go_at_call 36; refine Hn.out.mono ?_; rintro e W1 ⟨rfl, rfl⟩)
          go_roundw
          case rel => exact ⟨pos + (Utf8.decode s pos).2, f, k + 1, by go_num, HI2.out, HB2.out, by rw [← Ha.out, Hv.out]; rfl, by omega, hwl, by omega⟩
          case measure =>
            simp only [World.iterPos, HI2.out, HI.out]
            omega
    · have hnx : ∀ ty, (Instr.next (.pointer (some ⟨w.heap.size, 0, none⟩)) true ty).run Tryd.prog wr = _ := fun ty => Lib.run_next_end_at wr w.heap.size s pos ty hit hp
      have Hf : Hid (name s = decide (0 < k)) := by
        rw [← Ha.out, nameFrom_end s f pos k hp]
        show _ = _
        rw [decide_eq_decide]; omega
      clear hit
      go_wp2
      go_ret
      exact ⟨ret_bool Hf.out.symm, HB.out⟩

set_option maxHeartbeats 1000000 in
theorem Note_any (s : ByteArray) (hs : s.size ≤ 1000000) (w : World) (B : Nat) (hT : Tabs B w) :
    Calls Tryd.prog 20 #[.string s] w fun e w' => e = .returned (.tuple #[.int .i64 (notePlace s), .int .i64 (noteErr s)]) ∧ Below w.heap.size w w' := by
  have HT := Lib.hid hT.top
  clear hT
  go_enter Tryd.func20, Tryd.ntmps20
  go_wp2
  go_loopw [] (fun wr => ∃ (pos f : Nat), wr.heap[w.heap.size]? = some (.stringIter s pos) ∧ Below w.heap.size w wr ∧ noteFrom s f pos = noteFrom s s.size 0 ∧ s.size ≤ pos + f ∧ pos ≤ s.size) (fun wr => s.size - wr.iterPos w.heap.size)
  case atStart => exact ⟨0, s.size, World.iter_heap w s 0, (Below.refl _ _).alloc (Nat.le_refl _) _, rfl, by omega, by omega⟩
  case round =>
    obtain ⟨pos, f, hit, hbw, hacc, hfu, hps⟩ := hrel
    have Ha := Lib.hid hacc
    have HI := Lib.hid hit
    have HB := Lib.hid hbw
    clear hacc hbw
    by_cases hp : pos < s.size
    · have hnx : ∀ ty, (Instr.next (.pointer (some ⟨w.heap.size, 0, none⟩)) true ty).run Tryd.prog wr = _ := fun ty => Lib.run_next_any_at wr w.heap.size s pos ty hit hp
      clear hit
      have hwd := width_pos s pos hp
      have hwl := width_le s pos hp
      have hrl := rune_le s pos
      have HI2 := Lib.hid (Lib.iterAt_heap wr w.heap.size s pos (pos + (Utf8.decode s pos).2) HI.out)
      have HB2 := Lib.hid (Lib.below_iterAt HB.out (k := w.heap.size) (Nat.le_refl _) s (pos + (Utf8.decode s pos).2))
      have HT2 := Lib.hid (HT.out.on HB2.out)
      obtain ⟨f, rfl⟩ : ∃ f', f = f' + 1 := ⟨f - 1, by omega⟩
      have hbr := broken_any s pos hp hs (wr.iterAt w.heap.size s (pos + (Utf8.decode s pos).2)) HT2.out.utf0
      have bad_case : noteAt s pos = false → Hid (notePlace s = (pos : Int) ∧ noteErr s = 16) := by
        intro h
        have := noteFrom_off s f pos hp h
        rw [Ha.out] at this
        unfold notePlace noteErr
        rw [this, if_pos hp, if_pos hp]
        exact ⟨rfl, rfl⟩
      cases hbd : bad s pos
      · rw [hbd] at hbr
        have Hbr := Lib.hid hbr
        cases hnm : noteR (Utf8.decode s pos).1
        · have Hx := bad_case (by simp [noteAt, hbd, hnm])
          clear hbr hbd bad_case
          go_wp2_with (first
            | (go_at_call 29; refine Hbr.out.mono ?_; rintro e W1 ⟨rfl, hb1⟩)
            | (go_at_call 37; refine (noteRune_any _ hrl _).mono ?_; rintro e W2 ⟨rfl, rfl⟩; rw [hnm]))
          go_ret2
          exact ⟨by rw [Hx.out.1, Hx.out.2]; rfl, HB2.out.trans (hb1.mono HB2.out.size)⟩
        · have Hv := Lib.hid (noteFrom_on s f pos hp (by simp [noteAt, hbd, hnm]))
          clear hbr hbd bad_case
          go_wp2_with (first
            | (go_at_call 29; refine Hbr.out.mono ?_; rintro e W1 ⟨rfl, hb1⟩)
            | (go_at_call 37; refine (noteRune_any _ hrl _).mono ?_; rintro e W2 ⟨rfl, rfl⟩; rw [hnm]))
          have HI3 := Lib.hid ((hb1.block w.heap.size (Array.getElem?_eq_some_iff.1 HI2.out).1).trans HI2.out)
          have HB3 := Lib.hid (HB2.out.trans (hb1.mono HB2.out.size))
          clear hb1
          go_roundw
          case rel => exact ⟨pos + (Utf8.decode s pos).2, f, HI3.out, HB3.out, by rw [← Ha.out, Hv.out], by omega, hwl⟩
          case measure =>
            simp only [World.iterPos, HI3.out, HI.out]
            omega
      · rw [hbd] at hbr
        have Hbr := Lib.hid hbr
        have Hx := bad_case (by simp [noteAt, hbd])
        clear hbr hbd bad_case
        go_wp2_with (go_at_call 29; refine Hbr.out.mono ?_; rintro e W1 ⟨rfl, hb1⟩)
        go_ret2
        exact ⟨by rw [Hx.out.1, Hx.out.2]; rfl, HB2.out.trans (hb1.mono HB2.out.size)⟩
    · have hnx : ∀ ty, (Instr.next (.pointer (some ⟨w.heap.size, 0, none⟩)) true ty).run Tryd.prog wr = _ := fun ty => Lib.run_next_end_at wr w.heap.size s pos ty hit hp
      have hnf : ¬ noteFrom s s.size 0 < s.size := by rw [← Ha.out, noteFrom_end s f pos hp]; exact hp
      clear hit
      by_cases hl : 1000 < s.size
      · have Hx : Hid (notePlace s = 1000 ∧ noteErr s = 11) := by
          unfold notePlace noteErr
          rw [if_neg hnf, if_neg hnf, if_pos hl, if_pos hl]
          exact ⟨rfl, rfl⟩
        clear hnf
        go_wp2
        go_ret2
        exact ⟨by rw [Hx.out.1, Hx.out.2]; rfl, HB.out⟩
      · have Hx : Hid (notePlace s = 0 ∧ noteErr s = 0) := by
          unfold notePlace noteErr
          rw [if_neg hnf, if_neg hnf, if_neg hl, if_neg hl]
          exact ⟨rfl, rfl⟩
        clear hnf
        go_wp2
        go_ret2
        exact ⟨by rw [Hx.out.1, Hx.out.2]; rfl, HB.out⟩
end Go.Proofs.YthkjnhihpbomaaaDoor
