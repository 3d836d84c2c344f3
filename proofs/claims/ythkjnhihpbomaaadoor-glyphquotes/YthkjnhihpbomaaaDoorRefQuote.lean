/- A walk of the document's own answer: a text, printed. -/
import Derived.Test.YthkjnhihpbomaaaDoorRefHex
namespace Go.Proofs.YthkjnhihpbomaaaDoor
open Go.RowKit

theorem bad_ge (s : ByteArray) (p : Nat) (hp : p < s.size) (h : bad s p = true) : 128 ≤ (s[p]'hp).toNat := by
  by_cases ha : (s[p]'hp).toNat < 128
  · have := decode_ascii s p hp ha
    unfold bad at h
    rw [this] at h
    simp at h
    omega
  · omega
theorem ascii_rune (s : ByteArray) (p : Nat) (hp : p < s.size) (h : (Utf8.decode s p).1 < 128) : (s[p]'hp).toNat = (Utf8.decode s p).1 ∧ (Utf8.decode s p).2 = 1 := by
  by_cases ha : (s[p]'hp).toNat < 128
  · rw [decode_ascii s p hp ha]; exact ⟨rfl, rfl⟩
  · exfalso
    revert h
    have hb : (s.get! p).toNat = (s[p]'hp).toNat := by rw [Utf8W.get!_of_lt s p hp]
    rw [Lib.decode_at]; unfold Lib.decodeN
    repeat' split
    all_goals simp only []
    all_goals omega
theorem hexDigits_two (c : Nat) (h : 16 ≤ c) : 2 ≤ (hexDigits c).length := by
  unfold hexDigits
  rw [hexN_big 6 c h]
  have := (hexN_length 6 (c / 16)).1
  simp; omega

set_option maxRecDepth 100000 in
set_option maxHeartbeats 4000000 in
theorem rQuote_any (s : ByteArray) (hs : s.size ≤ 1000000) (w : World) :
    Calls Tryd.prog 27 #[.string s] w fun e w' => e = .returned (.string ⟨(quote s).toArray⟩) ∧ Below w.heap.size w w' := by
  go_enter Tryd.func27, Tryd.ntmps27
  go_wp2
  go_loopw [3, 4] (fun o i wr => ∃ (pos f : Nat) (acc : List UInt8), o = .string ⟨acc.toArray⟩ ∧ i = .int .i64 pos ∧ Below w.heap.size w wr ∧ acc ++ textFrom (quoteItem s) s f pos = [34] ++ textFrom (quoteItem s) s s.size 0 ∧ s.size ≤ pos + f ∧ acc.length ≤ 1 + 12 * pos ∧ pos ≤ s.size) (fun _ i _ => s.size - (intOf i).toNat)
  case atStart => exact ⟨0, s.size, [34], rfl, rfl, Below.refl _ _, rfl, by omega, by simp, by omega⟩
  case round =>
    obtain ⟨pos, f, acc, rfl, rfl, hbw, hacc, hfu, hal, hps⟩ := hrel
    have Ha := Lib.hid hacc
    have HB := Lib.hid hbw
    clear hacc hbw
    by_cases hp : pos < s.size
    · have hwd := width_pos s pos hp
      have hwl := width_le s pos hp
      have hrl := rune_le s pos
      have hq12 := quoteItem_length s pos
      obtain ⟨f, rfl⟩ : ∃ f', f = f' + 1 := ⟨f - 1, by omega⟩
      have hR := Rune_any s hs pos hp wr
      have fin : Hid (∀ (o : Value) (w' : World), o = .string ⟨(acc ++ quoteItem s pos).toArray⟩ → Below w.heap.size w w' → ∃ (pos_1 f_1 : Nat) (acc_1 : List UInt8), o = .string ⟨acc_1.toArray⟩ ∧ Value.int .i64 ((pos : Int) + ((Utf8.decode s pos).2 : Int)) = .int .i64 (pos_1 : Int) ∧ Below w.heap.size w w' ∧ acc_1 ++ textFrom (quoteItem s) s f_1 pos_1 = [34] ++ textFrom (quoteItem s) s s.size 0 ∧ s.size ≤ pos_1 + f_1 ∧ acc_1.length ≤ 1 + 12 * pos_1 ∧ pos_1 ≤ s.size) := by
        intro o w' ho hb
        refine ⟨pos + (Utf8.decode s pos).2, f, acc ++ quoteItem s pos, ho, by simp, hb, ?_, by omega, by simp; omega, hwl⟩
        rw [← Ha.out, textFrom_on _ s f pos hp, List.append_assoc]
      by_cases hbd : bad s pos = true
      · have hqi : quoteItem s pos = [92, 120] ++ hexDigits (s[pos]'hp).toNat := by simp [quoteItem, quoteB, hbd, Utf8W.get!_of_lt s pos hp]
        have Hq := Lib.hid hqi
        have hr : refR s pos = -1 := by simp [refR, hbd]
        rw [hr] at hR
        have HR := Lib.hid hR
        have hge := bad_ge s pos hp hbd
        have hlt := (s[pos]'hp).toNat_lt
        have hix := idx_str s pos hp (pos : Int) rfl
        rw [Utf8W.get!_of_lt s pos hp] at hix
        have h2 := hexDigits_two (s[pos]'hp).toNat (by omega)
        have h8 := (hexDigits_length (s[pos]'hp).toNat).2
        generalize (s[pos]'hp).toNat = c at Hq hge hlt hix h2 h8
        have HX := Lib.hid (rhex_any c 2 (by omega) (by omega) h2 wr)
        clear hqi hR hr hbd
        go_wp2_with (first
          | (go_at_call 38; refine HR.out.mono ?_; rintro e w' ⟨rfl, rfl⟩)
          | (go_at_call 42; refine HX.out.mono ?_; rintro e w1 ⟨rfl, hb1⟩))
        go_roundw
        case rel =>
          refine fin.out _ _ ?_ (HB.out.trans (hb1.mono HB.out.size))
          rw [Hq.out]
          simp only [app_str, List.append_assoc]
        case measure => simp [intOf]; omega
      · have hbd : bad s pos = false := by simpa using hbd
        have hqi : quoteItem s pos = quoteR (Utf8.decode s pos).1 := by simp [quoteItem, hbd]
        have hr : refR s pos = ((Utf8.decode s pos).1 : Int) := by simp [refR, hbd]
        rw [hr] at hR
        have har := ascii_rune s pos hp
        have h1s := one_str s pos hp
        rw [hqi] at fin
        generalize (Utf8.decode s pos).1 = r at hR har fin hrl
        have HR := Lib.hid hR
        clear hqi hR hr hbd
        by_cases c1 : r = 34
        · subst c1
          clear har h1s
          go_wp2_with (go_at_call 38; refine HR.out.mono ?_; rintro e w' ⟨rfl, rfl⟩)
          go_roundw
          case rel => exact fin.out _ _ (by simp only [app_str]; rfl) HB.out
          case measure => simp [intOf]; omega
        by_cases c2 : r = 92
        · subst c2
          clear har h1s
          go_wp2_with (go_at_call 38; refine HR.out.mono ?_; rintro e w' ⟨rfl, rfl⟩)
          go_roundw
          case rel => exact fin.out _ _ (by simp only [app_str]; rfl) HB.out
          case measure => simp [intOf]; omega
        by_cases c3 : r = 10
        · subst c3
          clear har h1s
          go_wp2_with (go_at_call 38; refine HR.out.mono ?_; rintro e w' ⟨rfl, rfl⟩)
          go_roundw
          case rel => exact fin.out _ _ (by simp only [app_str]; rfl) HB.out
          case measure => simp [intOf]; omega
        have e1 : ((r : Int) == 34) = false := beq_eq_false_iff_ne.2 (by omega)
        have e2 : ((r : Int) == 92) = false := beq_eq_false_iff_ne.2 (by omega)
        have e3 : ((r : Int) == 10) = false := beq_eq_false_iff_ne.2 (by omega)
        by_cases c4 : 32 ≤ r ∧ r ≤ 126
        · have hq : quoteR r = [r.toUInt8] := by simp [quoteR, c1, c2, c3, c4.1, c4.2]
          rw [hq] at fin
          have hb : s[pos]'hp = r.toUInt8 := by
            apply UInt8.toNat_inj.1
            rw [(har (by omega)).1]
            simp; omega
          rw [hb] at h1s
          have H1 := Lib.hid h1s
          obtain ⟨c4a, c4b⟩ := c4
          clear hq hb har h1s c1 c2 c3
          go_wp2_with (go_at_call 38; refine HR.out.mono ?_; rintro e w' ⟨rfl, rfl⟩)
          go_roundw
          case rel => exact fin.out _ _ (by rw [H1.out, app_str]) HB.out
          case measure => simp [intOf]; omega
        · have hq : quoteR r = [92, 117, 123] ++ (hexDigits r ++ [125]) := by simp [quoteR, c1, c2, c3, c4]
          rw [hq] at fin
          have h1 := (hexDigits_length r).1
          have h8 := (hexDigits_length r).2
          have HX := Lib.hid (rhex_any r 1 (by omega) (by omega) h1 wr)
          have c5 : (r : Int) < 32 ∨ 126 < (r : Int) := by omega
          clear hq har h1s c1 c2 c3 c4
          rcases c5 with c5 | c5
          all_goals
            go_wp2_with (first
              | (go_at_call 38; refine HR.out.mono ?_; rintro e w' ⟨rfl, rfl⟩)
              | (go_at_call 42; refine HX.out.mono ?_; rintro e w1 ⟨rfl, hb1⟩))
            go_roundw
            case rel => exact fin.out _ _ (by simp only [app_str, List.append_assoc]) (HB.out.trans (hb1.mono HB.out.size))
            case measure => simp [intOf]; omega
    · have hfin : acc = [34] ++ textFrom (quoteItem s) s s.size 0 := by rw [← Ha.out, textFrom_end _ s f pos hp, List.append_nil]
      have Hf := Lib.hid hfin
      clear hfin
      go_wp2
      go_ret
      refine ⟨?_, HB.out⟩
      rw [Hf.out]
      simp only [app_str, quote, List.append_assoc]
      rfl
end Go.Proofs.YthkjnhihpbomaaaDoor
