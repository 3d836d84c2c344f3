/- Walks of the document's own answers: Valid, Name, Note. -/
import Derived.Test.YthkjnhihpbomaaaDoorRunes
import Derived.Test.YthkjnhihpbomaaaDoorRefRune2
namespace Go.Proofs.YthkjnhihpbomaaaDoor
open Go.RowKit

set_option maxHeartbeats 1000000 in
theorem rValid_any (s : ByteArray) (hs : s.size ≤ 1000000) (w : World) :
    Calls Tryd.prog 22 #[.string s] w fun e w' => e = .returned (.bool (valid s)) ∧ w' = w := by
  go_enter Tryd.func22, Tryd.ntmps22
  go_wp2
  go_loopw [3] (fun i wr => ∃ (pos f : Nat), i = .int .i64 pos ∧ wr = w ∧ validFrom s f pos = valid s ∧ s.size ≤ pos + f ∧ pos ≤ s.size) (fun i _ => s.size - (intOf i).toNat)
  case atStart => exact ⟨0, s.size, rfl, rfl, rfl, by omega, by omega⟩
  case round =>
    obtain ⟨pos, f, rfl, hw, hacc, hfu, hps⟩ := hrel
    subst hw
    have Ha := Lib.hid hacc
    clear hacc
    by_cases hp : pos < s.size
    · have hwd := width_pos s pos hp
      have hwl := width_le s pos hp
      obtain ⟨f, rfl⟩ : ∃ f', f = f' + 1 := ⟨f - 1, by omega⟩
      have hv := validFrom_on s f pos hp
      have hR := Rune_any s hs pos hp wr
      cases hbd : bad s pos
      · rw [hbd] at hv
        rw [show refR s pos = ((Utf8.decode s pos).1 : Int) by simp [refR, hbd]] at hR
        have Hv := Lib.hid hv
        have HR := Lib.hid hR
        clear hv hR hbd
        go_wp2_with (go_at_call 38; refine HR.out.mono ?_; rintro e w' ⟨rfl, rfl⟩)
        go_roundw
        case rel => exact ⟨pos + (Utf8.decode s pos).2, f, by go_num, trivial, by rw [← Ha.out, Hv.out]; rfl, by omega, hwl⟩
        case measure => simp [intOf]; omega
      · rw [hbd] at hv
        rw [show refR s pos = -1 by simp [refR, hbd]] at hR
        have Hv : Hid (valid s = false) := by rw [← Ha.out, hv]; rfl
        have HR := Lib.hid hR
        clear hv hR hbd
        go_wp2_with (go_at_call 38; refine HR.out.mono ?_; rintro e w' ⟨rfl, rfl⟩)
        go_ret
        exact ⟨ret_bool Hv.out.symm, rfl⟩
    · have Hf : Hid (valid s = true) := by rw [← Ha.out, validFrom_end s f pos hp]; rfl
      go_wp2
      go_ret
      exact ⟨ret_bool Hf.out.symm, rfl⟩

/-- What stands for no text may not stand in a name. -/
theorem nameR_bad (s : ByteArray) (p : Nat) (h : bad s p = true) : nameR (Utf8.decode s p).1 = false := by
  simp [bad] at h
  rw [h.1]; rfl

set_option maxHeartbeats 1000000 in
theorem rName_any (s : ByteArray) (hs : s.size ≤ 1000000) (w : World) :
    Calls Tryd.prog 23 #[.string s] w fun e w' => e = .returned (.bool (name s)) ∧ w' = w := by
  go_enter Tryd.func23, Tryd.ntmps23
  go_wp2
  go_loopw [3, 4] (fun c i wr => ∃ (pos f k : Nat), c = .int .i64 k ∧ i = .int .i64 pos ∧ wr = w ∧ nameFrom s f pos k = name s ∧ s.size ≤ pos + f ∧ pos ≤ s.size ∧ k ≤ pos) (fun _ i _ => s.size - (intOf i).toNat)
  case atStart => exact ⟨0, s.size, 0, rfl, rfl, rfl, rfl, by omega, by omega, by omega⟩
  case round =>
    obtain ⟨pos, f, k, rfl, rfl, hw, hacc, hfu, hps, hk⟩ := hrel
    subst hw
    have Ha := Lib.hid hacc
    clear hacc
    by_cases hp : pos < s.size
    · have hwd := width_pos s pos hp
      have hwl := width_le s pos hp
      have hrl := rune_le s pos
      obtain ⟨f, rfl⟩ : ∃ f', f = f' + 1 := ⟨f - 1, by omega⟩
      have hv := nameFrom_on s f pos k hp
      have hR := Rune_any s hs pos hp wr
      cases hbd : bad s pos
      · rw [show refR s pos = ((Utf8.decode s pos).1 : Int) by simp [refR, hbd]] at hR
        have HR := Lib.hid hR
        have hnr := rInName_any (Utf8.decode s pos).1 hrl wr
        cases hnm : nameR (Utf8.decode s pos).1
        · rw [hnm] at hv hnr
          have Hv : Hid (name s = false) := by rw [← Ha.out, hv]; rfl
          have Hn := Lib.hid hnr
          clear hv hnr hnm hR hbd
          go_wp2_with (first
            | (go_at_call 38; refine HR.out.mono ?_; rintro e w' ⟨rfl, rfl⟩)
            | (go_at_call 39; refine Hn.out.mono ?_; rintro e w' ⟨rfl, rfl⟩))
          go_ret
          exact ⟨ret_bool Hv.out.symm, rfl⟩
        · rw [hnm] at hv hnr
          have Hv := Lib.hid hv
          have Hn := Lib.hid hnr
          clear hv hnr hnm hR hbd
          go_wp2_with (first
            | (go_at_call 38; refine HR.out.mono ?_; rintro e w' ⟨rfl, rfl⟩)
            | (go_at_call 39; refine Hn.out.mono ?_; rintro e w' ⟨rfl, rfl⟩))
          go_roundw
          case rel => exact ⟨pos + (Utf8.decode s pos).2, f, k + 1, by go_num, by go_num, trivial, by rw [← Ha.out, Hv.out]; rfl, by omega, hwl, by omega⟩
          case measure => simp [intOf]; omega
      · rw [show refR s pos = -1 by simp [refR, hbd]] at hR
        rw [nameR_bad s pos hbd] at hv
        have Hv : Hid (name s = false) := by rw [← Ha.out, hv]; rfl
        have HR := Lib.hid hR
        have Hn := Lib.hid (rInName_none wr)
        clear hv hR hbd
        go_wp2_with (first
          | (go_at_call 38; refine HR.out.mono ?_; rintro e w' ⟨rfl, rfl⟩)
          | (go_at_call 39; refine Hn.out.mono ?_; rintro e w' ⟨rfl, rfl⟩))
        go_ret
        exact ⟨ret_bool Hv.out.symm, rfl⟩
    · have hf := nameFrom_end s f pos k hp
      rw [Ha.out] at hf
      by_cases h1 : 1 ≤ (k : Int)
      · by_cases h2 : (k : Int) ≤ 24
        · have Hf : Hid (name s = true) := by rw [hf]; exact decide_eq_true (by omega)
          clear hf
          go_wp2
          go_ret
          exact ⟨ret_bool Hf.out.symm, rfl⟩
        · have Hf : Hid (name s = false) := by rw [hf]; exact decide_eq_false (by omega)
          have h3 : decide ((k : Int) ≤ 24) = false := decide_eq_false h2
          clear hf
          go_wp2
          go_ret
          exact ⟨ret_bool Hf.out.symm, rfl⟩
      · have Hf : Hid (name s = false) := by rw [hf]; exact decide_eq_false (by omega)
        have h3 : decide (1 ≤ (k : Int)) = false := decide_eq_false h1
        clear hf
        go_wp2
        go_ret
        exact ⟨ret_bool Hf.out.symm, rfl⟩

set_option maxRecDepth 100000 in
set_option maxHeartbeats 1000000 in
theorem rNote_any (s : ByteArray) (hs : s.size ≤ 1000000) (w : World) :
    Calls Tryd.prog 21 #[.string s] w fun e w' => e = .returned (.tuple #[.int .i64 (notePlace s), .int .i64 (noteErr s)]) ∧ w' = w := by
  go_enter Tryd.func21, Tryd.ntmps21
  go_wp2
  go_loopw [4] (fun i wr => ∃ (pos f : Nat), i = .int .i64 pos ∧ wr = w ∧ noteFrom s f pos = noteFrom s s.size 0 ∧ s.size ≤ pos + f ∧ pos ≤ s.size) (fun i _ => s.size - (intOf i).toNat)
  case atStart => exact ⟨0, s.size, rfl, rfl, rfl, by omega, by omega⟩
  case round =>
    obtain ⟨pos, f, rfl, hw, hacc, hfu, hps⟩ := hrel
    subst hw
    have Ha := Lib.hid hacc
    clear hacc
    by_cases hp : pos < s.size
    · have hwd := width_pos s pos hp
      have hwl := width_le s pos hp
      have hrl := rune_le s pos
      obtain ⟨f, rfl⟩ : ∃ f', f = f' + 1 := ⟨f - 1, by omega⟩
      have hR := Rune_any s hs pos hp wr
      have bad_case : noteAt s pos = false → Hid (notePlace s = (pos : Int) ∧ noteErr s = 16) := by
        intro h
        have := noteFrom_off s f pos hp h
        rw [Ha.out] at this
        unfold notePlace noteErr
        rw [this, if_pos hp, if_pos hp]
        exact ⟨rfl, rfl⟩
      cases hbd : bad s pos
      · rw [show refR s pos = ((Utf8.decode s pos).1 : Int) by simp [refR, hbd]] at hR
        have HR := Lib.hid hR
        have hna : noteAt s pos = noteR (Utf8.decode s pos).1 := by simp [noteAt, hbd]
        have hon := noteFrom_on s f pos hp
        rw [hna] at bad_case hon
        generalize (Utf8.decode s pos).1 = r at HR hrl bad_case hon
        clear hR hbd hna
        have good : Hid (noteR r = true → noteFrom s f (pos + (Utf8.decode s pos).2) = noteFrom s s.size 0) := fun h => by rw [← Ha.out, hon h]
        clear hon
        have Bad := Lib.hid bad_case
        clear bad_case
        have hcases : (r : Int) ≤ 9 ∨ r = 10 ∨ (11 ≤ (r : Int) ∧ (r : Int) ≤ 31) ∨ (32 ≤ (r : Int) ∧ (r : Int) ≤ 126) ∨ (127 ≤ (r : Int) ∧ (r : Int) ≤ 159) ∨ 160 ≤ (r : Int) := by omega
        rcases hcases with h | rfl | ⟨h, h'⟩ | ⟨h, h'⟩ | ⟨h, h'⟩ | h
        · have hn : noteR r = false := decide_eq_false (by omega)
          have Hx := Lib.hid ((Bad.out hn).out)
          clear hn good Bad
          have t0 : decide ((r : Int) < 32) = true := decide_eq_true (by omega)
          have t1 : decide (127 ≤ (r : Int)) = false := decide_eq_false (by omega)
          have t2 : decide ((r : Int) ≤ 159) = true := decide_eq_true (by omega)
          have t4 : ((r : Int) == 10) = false := beq_eq_false_iff_ne.2 (by omega)
          have t5 : ((r : Int) != 10) = true := by rw [bne_iff_ne]; omega
          go_wp2_with (go_at_call 38; refine HR.out.mono ?_; rintro e w' ⟨rfl, rfl⟩)
          go_ret2
          exact ⟨by rw [Hx.out.1, Hx.out.2]; rfl, rfl⟩
        · have hn : noteR 10 = true := decide_eq_true (by omega)
          have Hx := Lib.hid (good.out hn)
          clear hn good Bad
          go_wp2_with (go_at_call 38; refine HR.out.mono ?_; rintro e w' ⟨rfl, rfl⟩)
          go_roundw
          case rel => exact ⟨pos + (Utf8.decode s pos).2, f, by go_num, trivial, Hx.out, by omega, hwl⟩
          case measure => simp [intOf]; omega
        · have hn : noteR r = false := decide_eq_false (by omega)
          have Hx := Lib.hid ((Bad.out hn).out)
          clear hn good Bad
          have t0 : decide ((r : Int) < 32) = true := decide_eq_true (by omega)
          have t1 : decide (127 ≤ (r : Int)) = false := decide_eq_false (by omega)
          have t2 : decide ((r : Int) ≤ 159) = true := decide_eq_true (by omega)
          have t4 : ((r : Int) == 10) = false := beq_eq_false_iff_ne.2 (by omega)
          have t5 : ((r : Int) != 10) = true := by rw [bne_iff_ne]; omega
          go_wp2_with (go_at_call 38; refine HR.out.mono ?_; rintro e w' ⟨rfl, rfl⟩)
          go_ret2
          exact ⟨by rw [Hx.out.1, Hx.out.2]; rfl, rfl⟩
        · have hn : noteR r = true := decide_eq_true (by omega)
          have Hx := Lib.hid (good.out hn)
          clear hn good Bad
          have t0 : decide ((r : Int) < 32) = false := decide_eq_false (by omega)
          have t1 : decide (127 ≤ (r : Int)) = false := decide_eq_false (by omega)
          have t2 : decide ((r : Int) ≤ 159) = true := decide_eq_true (by omega)
          have t4 : ((r : Int) == 10) = false := beq_eq_false_iff_ne.2 (by omega)
          have t5 : ((r : Int) != 10) = true := by rw [bne_iff_ne]; omega
          go_wp2_with (go_at_call 38; refine HR.out.mono ?_; rintro e w' ⟨rfl, rfl⟩)
          go_roundw
          case rel => exact ⟨pos + (Utf8.decode s pos).2, f, by go_num, trivial, Hx.out, by omega, hwl⟩
          case measure => simp [intOf]; omega
        · have hn : noteR r = false := decide_eq_false (by omega)
          have Hx := Lib.hid ((Bad.out hn).out)
          clear hn good Bad
          have t0 : decide ((r : Int) < 32) = false := decide_eq_false (by omega)
          have t1 : decide (127 ≤ (r : Int)) = true := decide_eq_true (by omega)
          have t2 : decide ((r : Int) ≤ 159) = true := decide_eq_true (by omega)
          have t4 : ((r : Int) == 10) = false := beq_eq_false_iff_ne.2 (by omega)
          have t5 : ((r : Int) != 10) = true := by rw [bne_iff_ne]; omega
          go_wp2_with (go_at_call 38; refine HR.out.mono ?_; rintro e w' ⟨rfl, rfl⟩)
          go_ret2
          exact ⟨by rw [Hx.out.1, Hx.out.2]; rfl, rfl⟩
        · have hn : noteR r = true := decide_eq_true (by omega)
          have Hx := Lib.hid (good.out hn)
          clear hn good Bad
          have t0 : decide ((r : Int) < 32) = false := decide_eq_false (by omega)
          have t1 : decide (127 ≤ (r : Int)) = true := decide_eq_true (by omega)
          have t2 : decide ((r : Int) ≤ 159) = false := decide_eq_false (by omega)
          have t4 : ((r : Int) == 10) = false := beq_eq_false_iff_ne.2 (by omega)
          have t5 : ((r : Int) != 10) = true := by rw [bne_iff_ne]; omega
          go_wp2_with (go_at_call 38; refine HR.out.mono ?_; rintro e w' ⟨rfl, rfl⟩)
          go_roundw
          case rel => exact ⟨pos + (Utf8.decode s pos).2, f, by go_num, trivial, Hx.out, by omega, hwl⟩
          case measure => simp [intOf]; omega
      · rw [show refR s pos = -1 by simp [refR, hbd]] at hR
        have HR := Lib.hid hR
        have Hx := bad_case (by simp [noteAt, hbd])
        clear hR hbd bad_case
        go_wp2_with (go_at_call 38; refine HR.out.mono ?_; rintro e w' ⟨rfl, rfl⟩)
        go_ret2
        exact ⟨by rw [Hx.out.1, Hx.out.2]; rfl, rfl⟩
    · have hnf : ¬ noteFrom s s.size 0 < s.size := by rw [← Ha.out, noteFrom_end s f pos hp]; exact hp
      by_cases hl : 1000 < s.size
      · have Hx : Hid (notePlace s = 1000 ∧ noteErr s = 11) := by
          unfold notePlace noteErr
          rw [if_neg hnf, if_neg hnf, if_pos hl, if_pos hl]
          exact ⟨rfl, rfl⟩
        clear hnf
        go_wp2
        go_ret2
        exact ⟨by rw [Hx.out.1, Hx.out.2]; rfl, rfl⟩
      · have Hx : Hid (notePlace s = 0 ∧ noteErr s = 0) := by
          unfold notePlace noteErr
          rw [if_neg hnf, if_neg hnf, if_neg hl, if_neg hl]
          exact ⟨rfl, rfl⟩
        clear hnf
        go_wp2
        go_ret2
        exact ⟨by rw [Hx.out.1, Hx.out.2]; rfl, rfl⟩
end Go.Proofs.YthkjnhihpbomaaaDoor
