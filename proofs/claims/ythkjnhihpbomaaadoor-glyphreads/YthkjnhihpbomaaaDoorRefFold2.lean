/- Walks of the document's own answers: Bytes, Fold. -/
import Derived.Test.YthkjnhihpbomaaaDoorRefFold
namespace Go.Proofs.YthkjnhihpbomaaaDoor
open Go.RowKit

theorem conv_new (W : World) (news : List Value) (l : List UInt8) (h : news = Lib.byteCells l) (m : Nat) (hm : m = l.length) :
    (convert 38 9 (.slice (some ⟨W.heap.size, 0, none⟩) m m)).run Tryd.prog (W.alloc (.cells news.toArray 5)) = .ok (.string ⟨l.toArray⟩) (W.alloc (.cells news.toArray 5)) := by
  subst hm
  refine run_convert_bytes_back _ 38 9 5 ⟨W.heap.size, 0, none⟩ l.length l Tryd.underlying38 Tryd.underlying5 Tryd.underlying9 fun j hj => ?_
  have hadd : (⟨W.heap.size, 0, none⟩ : Addr).add j = ⟨W.heap.size, j, none⟩ := by unfold Addr.add; split <;> simp_all
  rw [hadd, cell_of_row _ W.heap.size j news.toArray 5 (0, 0) (heap_alloc_new W _), h]
  simp [Lib.byteCells, hj]

theorem cells_z (l : List Int) (h : ∀ x ∈ l, 0 ≤ x ∧ x < 256) : l.map (fun x => Value.int .u8 x) = Lib.byteCells (l.map fun x => x.toNat.toUInt8) := by
  simp only [Lib.byteCells, List.map_map]
  apply List.map_congr_left
  intro x hx
  have := h x hx
  simp
  omega
theorem enc_cells (r : Nat) (l : List Int) (h : Lib.encodeRuneZ r = l) : l.map (fun x => Value.int .u8 x) = Lib.byteCells (Lib.encodeRune r) := by
  subst h
  exact cells_z _ (Lib.encodeRuneZ_byte r)

set_option maxHeartbeats 1000000 in
theorem rBytes_any (r : Nat) (hr : r ≤ 1114111) (hv : ¬ (55296 ≤ r ∧ r ≤ 57343)) (w : World) : Calls Tryd.prog 40 #[.int .i64 r] w fun e w' => e = .returned (.string ⟨(Lib.encodeRune (r : Nat)).toArray⟩) ∧ Below w.heap.size w w' := by
  have lenc : ∀ l, Lib.encodeRuneZ r = l → (Lib.encodeRune (r : Nat)).length = l.length := fun l h => by simp [Lib.encodeRune, h]
  by_cases c1 : (r : Int) < 128
  · have he := Lib.encodeRuneZ_one (r := r) (by omega) (by omega)
    have hc := conv_new w [.int .u8 (r : Int)] (Lib.encodeRune (r : Nat)) (enc_cells r _ he) 1 (lenc _ he).symm
    clear lenc he
    generalize Lib.encodeRune (r : Nat) = L at hc
    go_enter Tryd.func40, Tryd.ntmps40
    go_wp2
    go_ret
    exact ⟨rfl, (Below.refl _ _).alloc (Nat.le_refl _) _⟩
  by_cases c2 : (r : Int) < 2048
  · have he := Lib.encodeRuneZ_two (r := r) (by omega) (by omega)
    have hc := conv_new w [.int .u8 (192 + (r : Int) / 64), .int .u8 (128 + (r : Int) % 64)] (Lib.encodeRune (r : Nat)) (enc_cells r _ he) 2 (lenc _ he).symm
    clear lenc he
    generalize Lib.encodeRune (r : Nat) = L at hc
    go_enter Tryd.func40, Tryd.ntmps40
    go_wp2
    go_ret
    exact ⟨rfl, (Below.refl _ _).alloc (Nat.le_refl _) _⟩
  by_cases c3 : (r : Int) < 65536
  · have he := Lib.encodeRuneZ_three (r := r) (by omega)
    have hc := conv_new w [.int .u8 (224 + (r : Int) / 4096), .int .u8 (128 + (r : Int) / 64 % 64), .int .u8 (128 + (r : Int) % 64)] (Lib.encodeRune (r : Nat)) (enc_cells r _ he) 3 (lenc _ he).symm
    clear lenc he
    generalize Lib.encodeRune (r : Nat) = L at hc
    go_enter Tryd.func40, Tryd.ntmps40
    go_wp2
    go_ret
    exact ⟨rfl, (Below.refl _ _).alloc (Nat.le_refl _) _⟩
  · have he := Lib.encodeRuneZ_four (r := r) (by omega) (by omega)
    have hc := conv_new w [.int .u8 (240 + (r : Int) / 262144), .int .u8 (128 + (r : Int) / 4096 % 64), .int .u8 (128 + (r : Int) / 64 % 64), .int .u8 (128 + (r : Int) % 64)] (Lib.encodeRune (r : Nat)) (enc_cells r _ he) 4 (lenc _ he).symm
    clear lenc he
    generalize Lib.encodeRune (r : Nat) = L at hc
    go_enter Tryd.func40, Tryd.ntmps40
    go_wp2
    go_ret
    exact ⟨rfl, (Below.refl _ _).alloc (Nat.le_refl _) _⟩

theorem app_str (a b : List UInt8) : (⟨a.toArray⟩ : ByteArray) ++ ⟨b.toArray⟩ = ⟨(a ++ b).toArray⟩ := by
  apply ByteArray.ext
  simp
theorem one_str (s : ByteArray) (p : Nat) (h : p < s.size) : s.extract p (p + 1) = ⟨[s[p]'h].toArray⟩ := by
  apply ByteArray.ext
  apply Array.ext'
  rw [Lib.extract_data]
  have h' : p < s.data.toList.length := by rw [← Lib.size_eq]; exact h
  rw [List.drop_eq_getElem_cons h', show p + 1 - p = 1 by omega, List.take_succ_cons, List.take_zero]
  rfl

theorem rune_valid (s : ByteArray) (p : Nat) : ¬ (55296 ≤ (Utf8.decode s p).1 ∧ (Utf8.decode s p).1 ≤ 57343) := by
  rw [Lib.decode_at]; unfold Lib.decodeN
  repeat' split
  all_goals simp only []
  all_goals omega
theorem foldR_valid (r : Nat) (h : ¬ (55296 ≤ r ∧ r ≤ 57343)) : ¬ (55296 ≤ foldR r ∧ foldR r ≤ 57343) := by
  unfold foldR
  repeat' split
  all_goals omega
theorem foldR_le2 (r : Nat) (hr : r ≤ 1114111) : foldR r ≤ 1114111 := by
  unfold foldR
  repeat' split
  all_goals omega

set_option maxHeartbeats 2000000 in
theorem rFold_any (s : ByteArray) (hs : s.size ≤ 1000000) (w : World) :
    Calls Tryd.prog 24 #[.string s] w fun e w' => e = .returned (.string ⟨(fold s).toArray⟩) ∧ Below w.heap.size w w' := by
  go_enter Tryd.func24, Tryd.ntmps24
  go_wp2
  go_loopw [3, 4] (fun o i wr => ∃ (pos f : Nat) (acc : List UInt8), o = .string ⟨acc.toArray⟩ ∧ i = .int .i64 pos ∧ Below w.heap.size w wr ∧ acc ++ textFrom (foldItem s) s f pos = fold s ∧ s.size ≤ pos + f ∧ acc.length ≤ 4 * pos ∧ pos ≤ s.size) (fun _ i _ => s.size - (intOf i).toNat)
  case atStart => exact ⟨0, s.size, [], rfl, rfl, Below.refl _ _, rfl, by omega, by simp, by omega⟩
  case round =>
    obtain ⟨pos, f, acc, rfl, rfl, hbw, hacc, hfu, hal, hps⟩ := hrel
    have Ha := Lib.hid hacc
    have HB := Lib.hid hbw
    clear hacc hbw
    by_cases hp : pos < s.size
    · have hwd := width_pos s pos hp
      have hwl := width_le s pos hp
      have hrl := rune_le s pos
      have hq4 := foldItem_length s pos
      obtain ⟨f, rfl⟩ : ∃ f', f = f' + 1 := ⟨f - 1, by omega⟩
      have hR := Rune_any s hs pos hp wr
      by_cases hbd : bad s pos = true
      · have hqi : foldItem s pos = [s[pos]'hp] := by simp [foldItem, hbd, Utf8W.get!_of_lt s pos hp]
        have Hq := Lib.hid hqi
        have hr : refR s pos = -1 := by simp [refR, hbd]
        rw [hr] at hR
        have HR := Lib.hid hR
        clear hqi hR hr
        go_wp2_with (go_at_call 38; refine HR.out.mono ?_; rintro e w' ⟨rfl, rfl⟩)
        go_roundw
        case rel =>
          refine ⟨pos + (Utf8.decode s pos).2, f, acc ++ foldItem s pos, ?_, by go_num, HB.out, ?_, by omega, by simp; omega, hwl⟩
          · rw [one_str s pos hp, app_str, Hq.out]
          · rw [← Ha.out, textFrom_on _ s f pos hp, List.append_assoc]
        case measure => simp [intOf]; omega
      · have hbd : bad s pos = false := by simpa using hbd
        have hqi : foldItem s pos = Lib.encodeRune (foldR (Utf8.decode s pos).1 : Nat) := by simp [foldItem, hbd]
        have Hq := Lib.hid hqi
        have hr : refR s pos = ((Utf8.decode s pos).1 : Int) := by simp [refR, hbd]
        rw [hr] at hR
        have HR := Lib.hid hR
        clear hqi hR hr
        have hE : (Lib.encodeRune (foldR (Utf8.decode s pos).1 : Nat)).length ≤ 4 := by rw [← Hq.out]; exact hq4
        have HF := Lib.hid (rFoldRune_any (Utf8.decode s pos).1 hrl wr)
        have HY := Lib.hid (rBytes_any (foldR (Utf8.decode s pos).1) (foldR_le2 _ hrl) (foldR_valid _ (rune_valid s pos)) wr)
        go_wp2_with (first
          | (go_at_call 38; refine HR.out.mono ?_; rintro e w' ⟨rfl, rfl⟩)
          | (go_at_call 41; refine HF.out.mono ?_; rintro e w' ⟨rfl, rfl⟩)
          | (go_at_call 40; refine HY.out.mono ?_; rintro e w1 ⟨rfl, hb1⟩))
        go_roundw
        case rel =>
          refine ⟨pos + (Utf8.decode s pos).2, f, acc ++ foldItem s pos, ?_, by go_num, HB.out.trans (hb1.mono HB.out.size), ?_, by omega, by simp; omega, hwl⟩
          · rw [app_str, Hq.out]
          · rw [← Ha.out, textFrom_on _ s f pos hp, List.append_assoc]
        case measure => simp [intOf]; omega
    · have hfin : acc = fold s := by rw [← Ha.out, textFrom_end _ s f pos hp, List.append_nil]
      subst hfin
      go_wp2
      go_ret
      exact ⟨rfl, HB.out⟩
end Go.Proofs.YthkjnhihpbomaaaDoor
