/- Walks of package glyph: foldRune, Fold, Same. -/
import Derived.Test.YthkjnhihpbomaaaDoorWalk
namespace Go.Proofs.YthkjnhihpbomaaaDoor
open Go.RowKit

theorem appendRune_any (B : Nat) (v : Value) (acc : List UInt8) (r : Nat) (hr : r ≤ 1114111) (w : World) (hB : B ≤ w.heap.size) (hown : Owns B v acc w) (hlen : acc.length ≤ 100000000) :
    Calls Tryd.prog 34 #[v, .int .i32 r] w fun e w' => ∃ v', e = .returned v' ∧ Owns B v' (acc ++ Lib.encodeRune (r : Nat)) w' ∧ Kept B w w' := by
  refine (Tryd.utf8_AppendRune_plain B v acc.length (Lib.byteCells acc) r (by omega) (by omega) w hown (by omega) hB).mono ?_
  rintro e w' ⟨v', rfl, h1, o, hg⟩
  have ho2 := World.ownsRow.alloc hown o
  refine ⟨v', rfl, ?_, ((Below.refl B w).alloc hB _).grown hg (by simp; omega) (fun k hk => (ho2.lt k hk).1), ((Lib.OthersKept.refl 5 none w).alloc _).grown hg (Lib.ownsRow_kind ho2)⟩
  unfold Owns
  rw [List.length_append, Lib.byteCells_append, Lib.byteCells_encodeRune]
  rw [Lib.runeCells_length] at h1
  exact h1

set_option maxHeartbeats 1000000 in
theorem foldRune_any (r : Nat) (hr : r ≤ 1114111) (w : World) : Calls Tryd.prog 35 #[.int .i32 r] w fun e w' => e = .returned (.int .i32 (foldR r : Nat)) ∧ w' = w := by
  by_cases h1 : r = 215
  · subst h1
    go_enter Tryd.func35, Tryd.ntmps35
    go_wp2
    go_ret
    exact ⟨rfl, rfl⟩
  by_cases h2 : r = 930
  · subst h2
    go_enter Tryd.func35, Tryd.ntmps35
    go_wp2
    go_ret
    exact ⟨rfl, rfl⟩
  have e1 : ((r : Int) == 215) = false := beq_eq_false_iff_ne.2 (by omega)
  have e2 : ((r : Int) == 930) = false := beq_eq_false_iff_ne.2 (by omega)
  have hf : Hid (¬ r = 215 ∧ ¬ r = 930) := ⟨h1, h2⟩
  clear h1 h2
  go_enter Tryd.func35, Tryd.ntmps35
  go_wp2
  all_goals go_ret
  all_goals refine ⟨ret_int ?_, rfl⟩
  all_goals have hf := hf.out
  all_goals unfold foldR
  all_goals repeat' split
  all_goals omega

theorem foldR_le (r : Nat) (hr : r ≤ 1114111) : foldR r ≤ 1114111 := by
  unfold foldR
  repeat' split
  all_goals omega

set_option maxHeartbeats 2000000 in
theorem Fold_any (s : ByteArray) (hs : s.size ≤ 1000000) (w : World) (B : Nat) (hT : Tabs B w) :
    Calls Tryd.prog 17 #[.string s] w fun e w' => e = .returned (.string ⟨(fold s).toArray⟩) ∧ Below w.heap.size w w' := by
  obtain ⟨i0, hi, hz0, hz1, hz2⟩ := info_parts info5
  have HT := Lib.hid hT.top
  clear hT
  go_enter Tryd.func17, Tryd.ntmps17
  go_wp2_with (at_make; refine wpList_make_own _ rfl _ _ 38 rfl w.heap.size 5 i0 (.int .u8 0) 1 Tryd.underlying38 hi hz0 hz1 _ _ _ s.size rfl rfl (by omega) (by rw [hz2]; omega) (by unfold maxLen; omega) (Nat.le_refl _) ?_)
  intro w2 o1 g1
  have k1 : Kept w.heap.size w w2 := ⟨(Below.refl _ _).grown g1 (Nat.le_refl _) (fun k hk => by cases hk), (Lib.OthersKept.refl _ _ _).grown g1 (fun k hk => by cases hk)⟩
  have H2 : Hid (Owns w.heap.size (.slice (some ⟨w.heap.size, 0, none⟩) 0 s.size) [] w2) := o1
  have hB2 := k1.low.size
  have K2 := Lib.hid k1
  clear o1 g1 k1
  go_wp2
  go_loopw [3] (fun v wr => ∃ (pos f : Nat) (acc : List UInt8), Owns w.heap.size v acc wr ∧ wr.heap[w2.heap.size]? = some (.stringIter s pos) ∧ Below w.heap.size w wr ∧ acc ++ textFrom (foldItem s) s f pos = fold s ∧ s.size ≤ pos + f ∧ acc.length ≤ 4 * pos ∧ pos ≤ s.size) (fun _ wr => s.size - wr.iterPos w2.heap.size)
  case atStart =>
    exact ⟨0, s.size, [], H2.out.alloc _, World.iter_heap w2 s 0, K2.out.low.alloc hB2 _, rfl, by omega, by simp, by omega⟩
  case round =>
    obtain ⟨pos, f, acc, hO, hit, hbw, hacc, hfu, hal, hps⟩ := hrel
    have hBr := hbw.size
    have HO := Lib.hid hO
    have Ha := Lib.hid hacc
    have HI := Lib.hid hit
    have HB := Lib.hid hbw
    clear hO hacc hbw
    by_cases hp : pos < s.size
    · have hnx : ∀ ty, (Instr.next (.pointer (some ⟨w2.heap.size, 0, none⟩)) true ty).run Tryd.prog wr = _ := fun ty => Lib.run_next_any_at wr w2.heap.size s pos ty hit hp
      clear hit
      have hwd := width_pos s pos hp
      have hrl := rune_le s pos
      have hwl := width_le s pos hp
      have hq4 := foldItem_length s pos
      have HO2 := Lib.hid (HO.out.iterAt HI.out (pos + (Utf8.decode s pos).2))
      have HI2 := Lib.hid (Lib.iterAt_heap wr w2.heap.size s pos (pos + (Utf8.decode s pos).2) HI.out)
      have HB2 := Lib.hid (Lib.below_iterAt HB.out (k := w2.heap.size) hB2 s (pos + (Utf8.decode s pos).2))
      have HT2 := Lib.hid (HT.out.on HB2.out)
      obtain ⟨f, rfl⟩ : ∃ f', f = f' + 1 := ⟨f - 1, by omega⟩
      by_cases hbd : bad s pos = true
      · have hqi : foldItem s pos = [s[pos]'hp] := by simp [foldItem, hbd, Utf8W.get!_of_lt s pos hp]
        have Hq := Lib.hid hqi
        clear hqi
        go_wp2_with (first
          | (go_at_call 29; refine (broken_any s pos hp hs _ HT2.out.utf0).mono ?_; rintro e W1 ⟨rfl, hb1⟩)
          | (at_builtin; refine wpList_app rfl _ _ rfl w.heap.size u3 acc 1 [.int .u8 (s[pos]'hp).toNat] [s[pos]'hp] rfl rfl rfl rfl (HO2.out.below hb1) (by simp; omega) (Nat.le_trans HB2.out.size hb1.size) ?_))
        intro v2 W2 o2 k2
        have hbW := HB2.out.trans (hb1.mono HB2.out.size)
        have H3 := Lib.hid o2
        have HI3 := Lib.hid (k2.iter ((hb1.block w2.heap.size (Array.getElem?_eq_some_iff.1 HI2.out).1).trans HI2.out))
        have HW := Lib.hid (hbW.trans k2.low)
        clear o2 k2 hbW hb1
        go_wp2
        go_roundw
        case rel =>
          refine ⟨pos + (Utf8.decode s pos).2, f, acc ++ foldItem s pos, by rw [Hq.out]; exact H3.out, HI3.out, HW.out, ?_, by omega, by simp; omega, hwl⟩
          rw [← Ha.out, textFrom_on _ s f pos hp, List.append_assoc]
        case measure =>
          simp only [World.iterPos, HI3.out, HI.out]
          omega
      · have hbd : bad s pos = false := by simpa using hbd
        have hqi : foldItem s pos = Lib.encodeRune (foldR (Utf8.decode s pos).1 : Nat) := by simp [foldItem, hbd]
        have Hq := Lib.hid hqi
        clear hqi
        go_wp2_with (first
          | (go_at_call 29; refine (broken_any s pos hp hs _ HT2.out.utf0).mono ?_; rintro e W1 ⟨rfl, hb1⟩)
          | (go_at_call 35; refine (foldRune_any _ hrl _).mono ?_; rintro e W1' ⟨rfl, rfl⟩))
        go_at_call 34
        have hbW := HB2.out.trans (hb1.mono HB2.out.size)
        refine (appendRune_any w.heap.size _ acc (foldR (Utf8.decode s pos).1) (foldR_le _ hrl) _ hbW.size (HO2.out.below hb1) (by omega)).mono ?_
        rintro e W2 ⟨v2, rfl, o2, k2⟩
        have H3 := Lib.hid o2
        have HI3 := Lib.hid (k2.iter ((hb1.block w2.heap.size (Array.getElem?_eq_some_iff.1 HI2.out).1).trans HI2.out))
        have HW := Lib.hid (hbW.trans k2.low)
        clear o2 k2 hbW hb1
        go_wp2
        go_roundw
        case rel =>
          refine ⟨pos + (Utf8.decode s pos).2, f, acc ++ foldItem s pos, by rw [Hq.out]; exact H3.out, HI3.out, HW.out, ?_, by omega, by simp; omega, hwl⟩
          rw [← Ha.out, textFrom_on _ s f pos hp, List.append_assoc]
        case measure =>
          simp only [World.iterPos, HI3.out, HI.out]
          omega
    · have hnx : ∀ ty, (Instr.next (.pointer (some ⟨w2.heap.size, 0, none⟩)) true ty).run Tryd.prog wr = _ := fun ty => Lib.run_next_end_at wr w2.heap.size s pos ty hit hp
      have hfin : acc = fold s := by rw [← Ha.out, textFrom_end _ s f pos hp, List.append_nil]
      have hcv := owns_conv HO.out
      subst hfin
      clear hit
      go_wp2
      go_ret
      exact ⟨rfl, HB.out⟩

set_option maxHeartbeats 1000000 in
theorem Same_any (a b : ByteArray) (ha : a.size ≤ 1000000) (hb : b.size ≤ 1000000) (w : World) (B : Nat) (hT : Tabs B w) :
    Calls Tryd.prog 19 #[.string a, .string b] w fun e w' => e = .returned (.bool (fold a == fold b)) ∧ Below w.heap.size w w' := by
  have HT := Lib.hid hT
  clear hT
  go_enter Tryd.func19, Tryd.ntmps19
  go_wp2_with fail
  go_at_call 17
  refine (Fold_any a ha w B HT.out).mono ?_
  rintro e w1 ⟨rfl, h1⟩
  have HT1 := Lib.hid (HT.out.top.on h1)
  have hsz := h1.size
  have HB1 := Lib.hid h1
  clear h1
  go_wp2_with fail
  go_at_call 17
  refine (Fold_any b hb w1 _ HT1.out).mono ?_
  rintro e w2 ⟨rfl, h2⟩
  have HB2 := Lib.hid (HB1.out.trans (h2.mono hsz))
  clear h2
  go_wp2
  go_ret
  exact ⟨rfl, HB2.out⟩
end Go.Proofs.YthkjnhihpbomaaaDoor
