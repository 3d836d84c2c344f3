/- Walks of package glyph: Quote. -/
import Derived.Test.YthkjnhihpbomaaaDoorWalk
namespace Go.Proofs.YthkjnhihpbomaaaDoor
open Go.RowKit

set_option maxHeartbeats 2000000 in
theorem Quote_any (s : ByteArray) (hs : s.size ≤ 1000000) (w : World) (B : Nat) (hT : Tabs B w) :
    Calls Tryd.prog 12 #[.string s] w fun e w' => e = .returned (.string ⟨(quote s).toArray⟩) ∧ Below w.heap.size w w' := by
  obtain ⟨i0, hi, hz0, hz1, hz2⟩ := info_parts info5
  have HT := Lib.hid hT.top
  clear hT
  go_enter Tryd.func12, Tryd.ntmps12
  go_wp2_with (at_make; refine wpList_make_own _ rfl _ _ 38 rfl w.heap.size 5 i0 (.int .u8 0) 1 Tryd.underlying38 hi hz0 hz1 _ _ _ (s.size + 2) rfl rfl (by omega) (by rw [hz2]; omega) (by unfold maxLen; omega) (Nat.le_refl _) ?_)
  intro w1 o1 g1
  have k1 : Kept w.heap.size w w1 := ⟨(Below.refl _ _).grown g1 (Nat.le_refl _) (fun k hk => by cases hk), (Lib.OthersKept.refl _ _ _).grown g1 (fun k hk => by cases hk)⟩
  have H1 : Hid (Owns w.heap.size (.slice (some ⟨w.heap.size, 0, none⟩) 0 (s.size + 2)) [] w1) := o1
  have hB1 := k1.low.size
  have K1 := Lib.hid k1
  clear o1 g1 k1
  go_wp2_with (at_builtin; refine wpList_app rfl _ _ rfl w.heap.size (.slice (some ⟨w.heap.size, 0, none⟩) 0 (s.size + 2)) [] 1 [.int .u8 34] [34] rfl rfl rfl rfl H1.out (by simp) hB1 ?_)
  intro v2 w2 o2 k2
  have H2 : Hid (Owns w.heap.size v2 [34] w2) := o2
  have K2 := Lib.hid (K1.out.trans k2)
  have hB2 := Nat.le_trans hB1 k2.low.size
  clear o2 k2 K1 H1 hB1
  go_wp2
  go_loopw [3] (fun v wr => ∃ (pos f : Nat) (acc : List UInt8), Owns w.heap.size v acc wr ∧ wr.heap[w2.heap.size]? = some (.stringIter s pos) ∧ Below w.heap.size w wr ∧ acc ++ textFrom (quoteItem s) s f pos = [34] ++ textFrom (quoteItem s) s s.size 0 ∧ s.size ≤ pos + f ∧ acc.length ≤ 1 + 12 * pos ∧ pos ≤ s.size) (fun _ wr => s.size - wr.iterPos w2.heap.size)
  case atStart =>
    exact ⟨0, s.size, [34], H2.out.alloc _, World.iter_heap w2 s 0, K2.out.low.alloc hB2 _, rfl, by omega, by simp, by omega⟩
  case round =>
    obtain ⟨pos, f, acc, hO, hit, hbw, hacc, hfu, hal, hps⟩ := hrel
    have hBr := hbw.size
    have HO := Lib.hid hO
    have Ha := Lib.hid hacc
    have HI := Lib.hid hit
    have HB := Lib.hid hbw
    clear hO hacc hbw
    by_cases hp : pos < s.size
    · have hnx : ∀ ty, (Instr.next (.pointer (some ⟨w2.heap.size, 0, none⟩)) true ty).run Tryd.prog wr = _ := fun ty => Lib.run_next_any_at wr w2.heap.size s pos ty hit hp
      clear hit
      have hwd := width_pos s pos hp
      have hrl := rune_le s pos
      have hwl := width_le s pos hp
      have hq12 := quoteItem_length s pos
      have HO2 := Lib.hid (HO.out.iterAt HI.out (pos + (Utf8.decode s pos).2))
      have HI2 := Lib.hid (Lib.iterAt_heap wr w2.heap.size s pos (pos + (Utf8.decode s pos).2) HI.out)
      have HB2 := Lib.hid (Lib.below_iterAt HB.out (k := w2.heap.size) hB2 s (pos + (Utf8.decode s pos).2))
      have HT2 := Lib.hid (HT.out.on HB2.out)
      obtain ⟨f, rfl⟩ : ∃ f', f = f' + 1 := ⟨f - 1, by omega⟩
      by_cases hbd : bad s pos = true
      · have hqi : quoteItem s pos = quoteB (s[pos]'hp) := by simp [quoteItem, hbd, Utf8W.get!_of_lt s pos hp]
        have Hq := Lib.hid hqi
        clear hqi
        go_wp2_with (go_at_call 29; refine (broken_any s pos hp hs _ HT2.out.utf0).mono ?_; rintro e W1 ⟨rfl, hb1⟩)
        go_at_call 30
        have hbW := HB2.out.trans (hb1.mono HB2.out.size)
        refine (quoteByte_any w.heap.size _ acc (s[pos]'hp) W1 (HT.out.on hbW) (HO2.out.below hb1) (by omega)).mono ?_
        rintro e W2 ⟨v2, rfl, o2, k2⟩
        have H3 := Lib.hid o2
        have HK := Lib.hid k2
        have HI3 := Lib.hid (k2.iter ((hb1.block w2.heap.size (Array.getElem?_eq_some_iff.1 HI2.out).1).trans HI2.out))
        have HW := Lib.hid (hbW.trans k2.low)
        clear o2 k2 hbW hb1
        go_wp2
        go_roundw
        case rel =>
          refine ⟨pos + (Utf8.decode s pos).2, f, acc ++ quoteItem s pos, by rw [Hq.out]; exact H3.out, HI3.out, HW.out, ?_, by omega, by simp; omega, hwl⟩
          rw [← Ha.out, textFrom_on _ s f pos hp, List.append_assoc]
        case measure =>
          simp only [World.iterPos, HI3.out, HI.out]
          omega
      · have hbd : bad s pos = false := by simpa using hbd
        have hqi : quoteItem s pos = quoteR (Utf8.decode s pos).1 := by simp [quoteItem, hbd]
        have Hq := Lib.hid hqi
        clear hqi
        go_wp2_with (go_at_call 29; refine (broken_any s pos hp hs _ HT2.out.utf0).mono ?_; rintro e W1 ⟨rfl, hb1⟩)
        go_at_call 31
        have hbW := HB2.out.trans (hb1.mono HB2.out.size)
        refine (quoteRune_any w.heap.size _ acc (Utf8.decode s pos).1 hrl W1 (HT.out.on hbW) (HO2.out.below hb1) (by omega)).mono ?_
        rintro e W2 ⟨v2, rfl, o2, k2⟩
        have H3 := Lib.hid o2
        have HK := Lib.hid k2
        have HI3 := Lib.hid (k2.iter ((hb1.block w2.heap.size (Array.getElem?_eq_some_iff.1 HI2.out).1).trans HI2.out))
        have HW := Lib.hid (hbW.trans k2.low)
        clear o2 k2 hbW hb1
        go_wp2
        go_roundw
        case rel =>
          refine ⟨pos + (Utf8.decode s pos).2, f, acc ++ quoteItem s pos, by rw [Hq.out]; exact H3.out, HI3.out, HW.out, ?_, by omega, by simp; omega, hwl⟩
          rw [← Ha.out, textFrom_on _ s f pos hp, List.append_assoc]
        case measure =>
          simp only [World.iterPos, HI3.out, HI.out]
          omega
    · have hnx : ∀ ty, (Instr.next (.pointer (some ⟨w2.heap.size, 0, none⟩)) true ty).run Tryd.prog wr = _ := fun ty => Lib.run_next_end_at wr w2.heap.size s pos ty hit hp
      have hfin : acc = [34] ++ textFrom (quoteItem s) s s.size 0 := by rw [← Ha.out, textFrom_end _ s f pos hp, List.append_nil]
      have Hf := Lib.hid hfin
      clear hfin hit
      go_wp2_with (at_builtin; refine wpList_app rfl _ _ rfl w.heap.size u3 acc 1 [.int .u8 34] [34] rfl rfl rfl rfl HO.out (by simp; omega) hBr ?_)
      intro v2 w3 o3 k3
      have hcv := owns_conv o3
      have Hk := Lib.hid (HB.out.trans k3.low)
      clear o3 k3
      go_wp2
      go_ret
      refine ⟨?_, Hk.out⟩
      rw [Hf.out]
      simp [quote]
end Go.Proofs.YthkjnhihpbomaaaDoor
