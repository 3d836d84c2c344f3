/- A walk: every call of a cursor, in every order, answers what the document says. -/
import Derived.Test.YtdfanplihheofaaAwake
import Derived.Test.YtdfanplihheofaaRTake
namespace Go.Proofs.Ytdfanplihheofaa
open Go.RowKit

/-- The document's cursor stands in this block. -/
def Mem (k : Nat) (s : ByteArray) (a : Nat) (w : World) : Prop := w.heap[k]? = some (.cells #[.string s, .int .i64 a] 35 (0, 0))
section
variable {k : Nat} {s : ByteArray} {a : Nat} {w w' : World}
theorem Mem.text (h : Mem k s a w) : w.cell? ⟨k, 0, none⟩ = some (.string s) := by unfold Mem at h; simp [World.cell?, h]
theorem Mem.at (h : Mem k s a w) : w.cell? ⟨k, 1, none⟩ = some (.int .i64 a) := by unfold Mem at h; simp [World.cell?, h]
theorem Mem.free (h : Mem k s a w) (o : Nat) : w.frozen? ⟨k, o, none⟩ = false := by unfold Mem at h; simp [World.frozen?, h]
theorem Mem.lt (h : Mem k s a w) : k < w.heap.size := (Array.getElem?_eq_some_iff.1 h).1
theorem Mem.on (h : Mem k s a w) (hb : Below w.heap.size w w') : Mem k s a w' := (hb.block k h.lt).trans h
theorem Mem.but {j : Nat} (h : Mem k s a w) (hb : But j w w') (hne : k ≠ j) : Mem k s a w' := (hb.block k hne h.lt).trans h
end

/-- Behind 'm = k': the document's cursor has gone on, and nothing else. -/
theorem moved {B gc gm : Nat} {s : ByteArray} {a a' : Nat} {w w4 : World} (o : Obj) (hc : Cur gc s a' w4) (hm : Mem gm s a w4) (hb : Below B w w4) (hB : B ≤ gm) (hne : gc ≠ gm) :
    Cur gc s a' (((w4.setCell ⟨gm, 0, none⟩ (.string s)).setCell ⟨gm, 1, none⟩ (.int .i64 a')).alloc o) ∧ Mem gm s a' (((w4.setCell ⟨gm, 0, none⟩ (.string s)).setCell ⟨gm, 1, none⟩ (.int .i64 a')).alloc o) ∧
      Below B w (((w4.setCell ⟨gm, 0, none⟩ (.string s)).setCell ⟨gm, 1, none⟩ (.int .i64 a')).alloc o) := by
  have hl := hc.lt
  have hl' := hm.lt
  have hBs : B ≤ w4.heap.size := by omega
  refine ⟨?_, ?_, ((hb.setCell (p := ⟨gm, 0, none⟩) hB _).setCell (p := ⟨gm, 1, none⟩) hB _).alloc (by simp; omega) _⟩
  · unfold Cur
    rw [Below.heap_alloc _ _ _ (by simp; omega), Below.heap_setCell _ _ _ _ hne, Below.heap_setCell _ _ _ _ hne]
    exact hc
  · unfold Mem at hm ⊢
    rw [Below.heap_alloc _ _ _ (by simp; omega)]
    simp [World.setCell, Array.getElem?_modify, hm]
theorem moved0 {B gc gm : Nat} {s : ByteArray} {a a' : Nat} {w w4 : World} (hc : Cur gc s a' w4) (hm : Mem gm s a w4) (hb : Below B w w4) (hB : B ≤ gm) (hne : gc ≠ gm) :
    Cur gc s a' ((w4.setCell ⟨gm, 0, none⟩ (.string s)).setCell ⟨gm, 1, none⟩ (.int .i64 a')) ∧ Mem gm s a' ((w4.setCell ⟨gm, 0, none⟩ (.string s)).setCell ⟨gm, 1, none⟩ (.int .i64 a')) ∧
      Below B w ((w4.setCell ⟨gm, 0, none⟩ (.string s)).setCell ⟨gm, 1, none⟩ (.int .i64 a')) := by
  refine ⟨?_, ?_, ((hb.setCell (p := ⟨gm, 0, none⟩) hB _).setCell (p := ⟨gm, 1, none⟩) hB _)⟩
  · unfold Cur
    rw [Below.heap_setCell _ _ _ _ hne, Below.heap_setCell _ _ _ _ hne]
    exact hc
  · unfold Mem at hm ⊢
    simp [World.setCell, Array.getElem?_modify, hm]
theorem moved1 {B gc gm : Nat} {s : ByteArray} {a a' : Nat} {w w4 : World} (hc : Cur gc s a' w4) (hm : Mem gm s a w4) (hb : Below B w w4) (hB : B ≤ gm) (hne : gc ≠ gm) :
    Cur gc s a' (w4.setCell ⟨gm, 1, none⟩ (.int .i64 a')) ∧ Mem gm s a' (w4.setCell ⟨gm, 1, none⟩ (.int .i64 a')) ∧ Below B w (w4.setCell ⟨gm, 1, none⟩ (.int .i64 a')) := by
  refine ⟨?_, ?_, hb.setCell (p := ⟨gm, 1, none⟩) hB _⟩
  · unfold Cur
    rw [Below.heap_setCell _ _ _ _ hne]
    exact hc
  · unfold Mem at hm ⊢
    simp [World.setCell, Array.getElem?_modify, hm]
/-- A number of a wrong size is none. -/
theorem Num_no (k : Nat) (s : ByteArray) (a : Nat) (z : Int) (w : World) (h : Cur k s a w) (hs : s.size ≤ 5000) (ha : a ≤ s.size) (hz : z < 1 ∨ 4 < z) :
    Calls Try.prog 11 #[.pointer (some ⟨k, 0, none⟩), .int .i64 z] w fun e w' => e = .returned (.tuple #[.int .i64 0, .int .i64 1]) ∧ Cur k s a w' ∧ But k w w' := by
  have := Num_any k s a z w h (by unfold maxLen; omega) ha
  unfold numbered at this
  rw [if_pos hz] at this
  exact this
theorem Num_yes (k : Nat) (s : ByteArray) (a : Nat) (z : Int) (w : World) (h : Cur k s a w) (hs : s.size ≤ 5000) (ha : a ≤ s.size) (hz : 1 ≤ z ∧ z ≤ 4) :
    Calls Try.prog 11 #[.pointer (some ⟨k, 0, none⟩), .int .i64 z] w fun e w' => e = .returned (.tuple #[.int .i64 (num (taken s a z).1.data.toList 0 : Nat), .int .i64 (taken s a z).2.2]) ∧ Cur k s (taken s a z).2.1 w' ∧ But k w w' := by
  have := Num_any k s a z w h (by unfold maxLen; omega) ha
  unfold numbered at this
  rw [if_neg (by omega)] at this
  exact this
theorem taken_four (s : ByteArray) (a : Nat) (z : Int) (ha : a ≤ s.size) (hz : 1 ≤ z ∧ z ≤ 4) : (taken s a z).1.size ≤ 4 := by
  rw [(taken_size s a z ha).2.2]
  unfold taken
  split
  · simp
  · split
    · simp
    · simp only []; omega
theorem Left_int (k : Nat) (s : ByteArray) (a : Nat) (w : World) (h : Cur k s a w) (ha : a ≤ s.size) (hs : s.size ≤ 5000) : Calls Try.prog 13 #[.pointer (some ⟨k, 0, none⟩)] w fun e w' => e = .returned (.int .i64 ((s.size : Int) - (a : Int))) ∧ ∃ n, w' = w.drewN n := by
  have := Left_any k s a w h ha (by unfold maxLen; omega)
  rwa [show ((s.size - a : Nat) : Int) = (s.size : Int) - (a : Int) by omega] at this

set_option maxRecDepth 100000 in
set_option maxHeartbeats 4000000 in
theorem plays_one (s : ByteArray) (p0 : Option Addr) (cap : Nat) (L : List (Nat × Int)) (w : World) (hs : s.size ≤ 5000) (hL : L.length ≤ 100)
    (hc : L = [] ∨ ∃ b o, p0 = some ⟨b, o, none⟩ ∧ b < w.heap.size ∧ ∀ i (hi : i < L.length), w.cell? ⟨b, o + i * 2, none⟩ = some (.int .u8 (L[i].1 : Nat)) ∧ w.cell? ⟨b, o + i * 2 + 1, none⟩ = some (.int .i64 L[i].2)) :
    Calls Try.prog 4 #[.string s, .slice p0 L.length cap] w fun e w' => e = .returned (.bool true) ∧ Below w.heap.size w w' := by
  have HC0 := Lib.hid hc
  have hsI : ¬ 5000 < (s.size : Int) := by omega
  have hLI : ¬ 100 < (L.length : Int) := by omega
  clear hc
  go_enter Try.func4, Try.ntmps4
  go_wp2_with fail
  go_at_call 10
  refine (New_cur s w).mono ?_
  rintro e w1 ⟨rfl, c1, b1⟩
  have HC1 := Lib.hid c1
  have HB1 := Lib.hid b1
  have hs1 := b1.size
  clear c1 b1
  go_wp2
  have HM2 : Hid (Mem w1.heap.size s 0 (w1.alloc (.cells #[.string s, .int .i64 0] 35))) := heap_alloc_new _ _
  have HC2 : Hid (Cur w.heap.size s 0 (w1.alloc (.cells #[.string s, .int .i64 0] 35))) := cur_on HC1.out ((Below.refl _ _).alloc (Nat.le_refl _) _)
  have HB2 : Hid (Below w.heap.size w (w1.alloc (.cells #[.string s, .int .i64 0] 35))) := HB1.out.alloc hs1 _
  have hgc : w.heap.size < w1.heap.size := HC1.out.lt
  generalize w1.alloc (.cells #[.string s, .int .i64 0] 35) = w2 at HM2 HC2 HB2 ⊢
  generalize w1.heap.size = gm at HM2 hgc ⊢
  clear HB1 HC1 hs1
  go_loopw [7] (fun i wr => ∃ k a : Nat, i = .int .i64 k ∧ k ≤ L.length ∧ a ≤ s.size ∧ Cur w.heap.size s a wr ∧ Mem gm s a wr ∧ Below w.heap.size w wr) (fun i _ => L.length - (intOf i).toNat)
  case atStart => exact ⟨0, 0, rfl, Nat.zero_le _, Nat.zero_le _, HC2.out, HM2.out, HB2.out⟩
  case round =>
    obtain ⟨k, a, rfl, hk, ha, hcur, hmem, hB⟩ := hrel
    have HC := Lib.hid hcur
    have HM := Lib.hid hmem
    have HB := Lib.hid hB
    have hBs := hB.size
    clear hcur hmem hB HM2 HC2 HB2
    by_cases hlt : k < L.length
    · obtain ⟨b, o, rfl, hb, hc⟩ := HC0.out.resolve_left (fun h => by rw [h] at hlt; exact absurd hlt (Nat.not_lt_zero _))
      have hd := (hc k hlt).1
      have hn := (hc k hlt).2
      rw [← HB.out.cell hb] at hd hn
      generalize L[k].1 = d at hd
      generalize L[k].2 = n at hn
      have hd5 : d % 5 = 0 ∨ d % 5 = 1 ∨ d % 5 = 2 ∨ d % 5 = 3 ∨ d % 5 = 4 := by omega
      clear hc
      rcases hd5 with h5 | h5 | h5 | h5 | h5
      · have h5' : (d : Int) % 5 = 0 := by omega
        clear h5
        by_cases n1 : n < 1
        · have HN := Lib.hid (Num_no w.heap.size s a n wr HC.out hs ha (.inl n1))
          go_wp2_with fail
          go_at_call 11
          refine HN.out.mono ?_
          rintro e w3 ⟨rfl, c3, b3⟩
          have HC3 := Lib.hid c3
          have HM3 := Lib.hid (HM.out.but b3 (by omega))
          have HB3 := Lib.hid (HB.out.trans (b3.below (Nat.le_refl _) hBs))
          clear c3 b3
          go_wp2
          have q1 := HM3.out.at
          go_quiet ((first
            | (go_at_call 12; exact Calls.quiet_of_same (At_any w.heap.size s a _ HC3.out))
            | (go_at_call 13; exact Calls.quiet_of (Left_int w.heap.size s a _ HC3.out ha hs))))
          go_wp2
          go_roundw
          case rel => exact ⟨k + 1, a, by go_num, by omega, ha, HC3.out, HM3.out, HB3.out.trans ⟨rfl, rfl, rfl, Nat.le_refl _, fun _ _ => rfl⟩⟩
          case measure => simp [intOf]; omega
        by_cases n4 : 4 < n
        · have HN := Lib.hid (Num_no w.heap.size s a n wr HC.out hs ha (.inr n4))
          go_wp2_with fail
          go_at_call 11
          refine HN.out.mono ?_
          rintro e w3 ⟨rfl, c3, b3⟩
          have HC3 := Lib.hid c3
          have HM3 := Lib.hid (HM.out.but b3 (by omega))
          have HB3 := Lib.hid (HB.out.trans (b3.below (Nat.le_refl _) hBs))
          clear c3 b3
          go_wp2
          have q1 := HM3.out.at
          go_quiet ((first
            | (go_at_call 12; exact Calls.quiet_of_same (At_any w.heap.size s a _ HC3.out))
            | (go_at_call 13; exact Calls.quiet_of (Left_int w.heap.size s a _ HC3.out ha hs))))
          go_wp2
          go_roundw
          case rel => exact ⟨k + 1, a, by go_num, by omega, ha, HC3.out, HM3.out, HB3.out.trans ⟨rfl, rfl, rfl, Nat.le_refl _, fun _ _ => rfl⟩⟩
          case measure => simp [intOf]; omega
        · have hT := Num_yes w.heap.size s a n wr HC.out hs ha ⟨by omega, by omega⟩
          have hR := fun W => rTake_any s a n hs ha W
          have hz := taken_size s a n ha
          have h4 := taken_four s a n ha ⟨by omega, by omega⟩
          generalize taken s a n = T at hT hR hz h4
          obtain ⟨t, a', c⟩ := T
          simp only at hT hR hz h4
          have HNU := Lib.hid (fun W => rNum_any t h4 W)
          clear h4
          generalize num t.data.toList 0 = x at hT HNU
          have HT := Lib.hid hT
          have HR := Lib.hid hR
          clear hT hR
          go_wp2_with fail
          go_at_call 11
          refine HT.out.mono ?_
          rintro e w3 ⟨rfl, c3, b3⟩
          have HC3 := Lib.hid c3
          have HM3 := Lib.hid (HM.out.but b3 (by omega))
          have HB3 := Lib.hid (HB.out.trans (b3.below (Nat.le_refl _) hBs))
          have m0 := HM3.out.text
          have m1 := HM3.out.at
          clear c3 b3
          go_wp2_with fail
          go_at_call 14
          refine (HR.out w3).mono ?_
          rintro e w4 ⟨rfl, b4⟩
          have HC4 := Lib.hid (cur_on HC3.out b4)
          have HM4 := Lib.hid (HM3.out.on b4)
          have HB4 := Lib.hid (HB3.out.trans (b4.mono HB3.out.size))
          have n0 := HM4.out.text
          have n1 := HM4.out.at
          have f0 := HM4.out.free 0
          have f1 := HM4.out.free 1
          have hl4 := HM4.out.lt
          clear b4 m0 m1
          go_wp2_with (go_at_call 15; refine (HNU.out _).mono ?_; rintro e w' ⟨rfl, hw⟩; rw [hw]; clear hw w')
          obtain ⟨hC5, hM5, hB5⟩ := moved (.cells #[.string s, .int .i64 a'] 35) HC4.out HM4.out HB4.out (Nat.le_of_lt hgc) (Nat.ne_of_lt hgc)
          generalize ((w4.setCell ⟨gm, 0, none⟩ (.string s)).setCell ⟨gm, 1, none⟩ (.int .i64 a')).alloc (.cells #[.string s, .int .i64 a'] 35) = w5 at hC5 hM5 hB5 ⊢
          have HC5 := Lib.hid hC5
          have HM5 := Lib.hid hM5
          have HB5 := Lib.hid hB5
          have q1 := hM5.at
          have ha' : a' ≤ s.size := hz.2.1
          clear hC5 hM5 hB5 n0 n1 f0 f1 hl4
          go_quiet ((first
            | (go_at_call 12; exact Calls.quiet_of_same (At_any w.heap.size s a' _ HC5.out))
            | (go_at_call 13; exact Calls.quiet_of (Left_int w.heap.size s a' _ HC5.out ha' hs))))
          go_wp2
          go_roundw
          case rel => exact ⟨k + 1, a', by go_num, by omega, ha', HC5.out, HM5.out, HB5.out.trans ⟨rfl, rfl, rfl, Nat.le_refl _, fun _ _ => rfl⟩⟩
          case measure => simp [intOf]; omega
      · have h5' : (d : Int) % 5 = 1 := by omega
        clear h5
        by_cases n1 : n < 1
        · have HN := Lib.hid (Num_no w.heap.size s a n wr HC.out hs ha (.inl n1))
          go_wp2_with fail
          go_at_call 11
          refine HN.out.mono ?_
          rintro e w3 ⟨rfl, c3, b3⟩
          have HC3 := Lib.hid c3
          have HM3 := Lib.hid (HM.out.but b3 (by omega))
          have HB3 := Lib.hid (HB.out.trans (b3.below (Nat.le_refl _) hBs))
          clear c3 b3
          go_wp2
          have q1 := HM3.out.at
          go_quiet ((first
            | (go_at_call 12; exact Calls.quiet_of_same (At_any w.heap.size s a _ HC3.out))
            | (go_at_call 13; exact Calls.quiet_of (Left_int w.heap.size s a _ HC3.out ha hs))))
          go_wp2
          go_roundw
          case rel => exact ⟨k + 1, a, by go_num, by omega, ha, HC3.out, HM3.out, HB3.out.trans ⟨rfl, rfl, rfl, Nat.le_refl _, fun _ _ => rfl⟩⟩
          case measure => simp [intOf]; omega
        by_cases n4 : 4 < n
        · have HN := Lib.hid (Num_no w.heap.size s a n wr HC.out hs ha (.inr n4))
          go_wp2_with fail
          go_at_call 11
          refine HN.out.mono ?_
          rintro e w3 ⟨rfl, c3, b3⟩
          have HC3 := Lib.hid c3
          have HM3 := Lib.hid (HM.out.but b3 (by omega))
          have HB3 := Lib.hid (HB.out.trans (b3.below (Nat.le_refl _) hBs))
          clear c3 b3
          go_wp2
          have q1 := HM3.out.at
          go_quiet ((first
            | (go_at_call 12; exact Calls.quiet_of_same (At_any w.heap.size s a _ HC3.out))
            | (go_at_call 13; exact Calls.quiet_of (Left_int w.heap.size s a _ HC3.out ha hs))))
          go_wp2
          go_roundw
          case rel => exact ⟨k + 1, a, by go_num, by omega, ha, HC3.out, HM3.out, HB3.out.trans ⟨rfl, rfl, rfl, Nat.le_refl _, fun _ _ => rfl⟩⟩
          case measure => simp [intOf]; omega
        · have hT := Num_yes w.heap.size s a n wr HC.out hs ha ⟨by omega, by omega⟩
          have hR := fun W => rTake_any s a n hs ha W
          have hz := taken_size s a n ha
          have h4 := taken_four s a n ha ⟨by omega, by omega⟩
          generalize taken s a n = T at hT hR hz h4
          obtain ⟨t, a', c⟩ := T
          simp only at hT hR hz h4
          have HNU := Lib.hid (fun W => rNum_any t h4 W)
          clear h4
          generalize num t.data.toList 0 = x at hT HNU
          have HT := Lib.hid hT
          have HR := Lib.hid hR
          clear hT hR
          go_wp2_with fail
          go_at_call 11
          refine HT.out.mono ?_
          rintro e w3 ⟨rfl, c3, b3⟩
          have HC3 := Lib.hid c3
          have HM3 := Lib.hid (HM.out.but b3 (by omega))
          have HB3 := Lib.hid (HB.out.trans (b3.below (Nat.le_refl _) hBs))
          have m0 := HM3.out.text
          have m1 := HM3.out.at
          clear c3 b3
          go_wp2_with fail
          go_at_call 14
          refine (HR.out w3).mono ?_
          rintro e w4 ⟨rfl, b4⟩
          have HC4 := Lib.hid (cur_on HC3.out b4)
          have HM4 := Lib.hid (HM3.out.on b4)
          have HB4 := Lib.hid (HB3.out.trans (b4.mono HB3.out.size))
          have n0 := HM4.out.text
          have n1 := HM4.out.at
          have f0 := HM4.out.free 0
          have f1 := HM4.out.free 1
          have hl4 := HM4.out.lt
          clear b4 m0 m1
          go_wp2_with (go_at_call 15; refine (HNU.out _).mono ?_; rintro e w' ⟨rfl, hw⟩; rw [hw]; clear hw w')
          obtain ⟨hC5, hM5, hB5⟩ := moved (.cells #[.string s, .int .i64 a'] 35) HC4.out HM4.out HB4.out (Nat.le_of_lt hgc) (Nat.ne_of_lt hgc)
          generalize ((w4.setCell ⟨gm, 0, none⟩ (.string s)).setCell ⟨gm, 1, none⟩ (.int .i64 a')).alloc (.cells #[.string s, .int .i64 a'] 35) = w5 at hC5 hM5 hB5 ⊢
          have HC5 := Lib.hid hC5
          have HM5 := Lib.hid hM5
          have HB5 := Lib.hid hB5
          have q1 := hM5.at
          have ha' : a' ≤ s.size := hz.2.1
          clear hC5 hM5 hB5 n0 n1 f0 f1 hl4
          go_quiet ((first
            | (go_at_call 12; exact Calls.quiet_of_same (At_any w.heap.size s a' _ HC5.out))
            | (go_at_call 13; exact Calls.quiet_of (Left_int w.heap.size s a' _ HC5.out ha' hs))))
          go_wp2
          go_roundw
          case rel => exact ⟨k + 1, a', by go_num, by omega, ha', HC5.out, HM5.out, HB5.out.trans ⟨rfl, rfl, rfl, Nat.le_refl _, fun _ _ => rfl⟩⟩
          case measure => simp [intOf]; omega
      · have h5' : (d : Int) % 5 = 2 := by omega
        clear h5
        have hT := Take_any w.heap.size s a n wr HC.out (by unfold maxLen; omega) ha
        have hR := fun W => rTake_any s a n hs ha W
        have hz := taken_size s a n ha
        generalize taken s a n = T at hT hR hz
        obtain ⟨t, a', c⟩ := T
        simp only at hT hR hz
        have HT := Lib.hid hT
        have HR := Lib.hid hR
        clear hT hR
        go_wp2_with fail
        go_at_call 16
        refine HT.out.mono ?_
        rintro e w3 ⟨rfl, c3, b3⟩
        have HC3 := Lib.hid c3
        have HM3 := Lib.hid (HM.out.but b3 (by omega))
        have HB3 := Lib.hid (HB.out.trans (b3.below (Nat.le_refl _) hBs))
        have m0 := HM3.out.text
        have m1 := HM3.out.at
        clear c3 b3
        go_wp2_with fail
        go_at_call 14
        refine (HR.out w3).mono ?_
        rintro e w4 ⟨rfl, b4⟩
        have HC4 := Lib.hid (cur_on HC3.out b4)
        have HM4 := Lib.hid (HM3.out.on b4)
        have HB4 := Lib.hid (HB3.out.trans (b4.mono HB3.out.size))
        have n0 := HM4.out.text
        have n1 := HM4.out.at
        have f0 := HM4.out.free 0
        have f1 := HM4.out.free 1
        have hl4 := HM4.out.lt
        clear b4 m0 m1
        go_wp2
        obtain ⟨hC5, hM5, hB5⟩ := moved (.cells #[.string s, .int .i64 a'] 35) HC4.out HM4.out HB4.out (Nat.le_of_lt hgc) (Nat.ne_of_lt hgc)
        generalize ((w4.setCell ⟨gm, 0, none⟩ (.string s)).setCell ⟨gm, 1, none⟩ (.int .i64 a')).alloc (.cells #[.string s, .int .i64 a'] 35) = w5 at hC5 hM5 hB5 ⊢
        have HC5 := Lib.hid hC5
        have HM5 := Lib.hid hM5
        have HB5 := Lib.hid hB5
        have q1 := hM5.at
        have ha' : a' ≤ s.size := hz.2.1
        clear hC5 hM5 hB5 n0 n1 f0 f1 hl4
        go_quiet ((first
          | (go_at_call 12; exact Calls.quiet_of_same (At_any w.heap.size s a' _ HC5.out))
          | (go_at_call 13; exact Calls.quiet_of (Left_int w.heap.size s a' _ HC5.out ha' hs))))
        go_wp2
        go_roundw
        case rel => exact ⟨k + 1, a', by go_num, by omega, ha', HC5.out, HM5.out, HB5.out.trans ⟨rfl, rfl, rfl, Nat.le_refl _, fun _ _ => rfl⟩⟩
        case measure => simp [intOf]; omega
      · have h5' : (d : Int) % 5 = 3 := by omega
        clear h5
        have hT := Sub_any w.heap.size s a n wr HC.out (by unfold maxLen; omega) ha
        have hR := fun W => rTake_any s a n hs ha W
        have hz := taken_size s a n ha
        generalize taken s a n = T at hT hR hz
        obtain ⟨t, a', c⟩ := T
        simp only at hT hR hz
        have HT := Lib.hid hT
        have HR := Lib.hid hR
        have ha' : a' ≤ s.size := hz.2.1
        have hts : t.size ≤ 5000 := by omega
        clear hT hR hz
        go_wp2_with fail
        go_at_call 17
        refine HT.out.mono ?_
        rintro e w3 ⟨p, rfl, c3, b3, hp⟩
        have HC3 := Lib.hid c3
        have HM3 := Lib.hid (HM.out.but b3 (by omega))
        have HB3 := Lib.hid (HB.out.trans (b3.below (Nat.le_refl _) hBs))
        have m0 := HM3.out.text
        have m1 := HM3.out.at
        have hgmr : gm < wr.heap.size := HM.out.lt
        clear c3 b3
        rcases hp with ⟨rfl, hcn, rfl⟩ | ⟨j, rfl, rfl, hj, hcj⟩
        · have hc0 : ((c : Int) != 0) = true := bne_iff_ne.2 (by omega)
          go_wp2_with fail
          go_at_call 14
          refine (HR.out w3).mono ?_
          rintro e w4 ⟨rfl, b4⟩
          have HC4 := Lib.hid (cur_on HC3.out b4)
          have HM4 := Lib.hid (HM3.out.on b4)
          have HB4 := Lib.hid (HB3.out.trans (b4.mono HB3.out.size))
          have n0 := HM4.out.text
          have n1 := HM4.out.at
          have f0 := HM4.out.free 0
          have f1 := HM4.out.free 1
          have hl4 := HM4.out.lt
          clear b4 m0 m1
          go_wp2_with (first
            | (go_at_call 13; refine (Left_nil _).mono ?_; rintro e w' ⟨rfl, hw⟩; rw [hw]; clear hw w')
            | (go_at_call 12; refine (At_nil _).mono ?_; rintro e w' ⟨rfl, hw⟩; rw [hw]; clear hw w')
            | (go_at_call 18; refine (Rest_nil _).mono ?_; rintro e w' ⟨rfl, hw⟩; rw [hw]; clear hw w'))
          obtain ⟨hC5, hM5, hB5⟩ := moved (.cells #[.string s, .int .i64 a'] 35) HC4.out HM4.out HB4.out (Nat.le_of_lt hgc) (Nat.ne_of_lt hgc)
          generalize ((w4.setCell ⟨gm, 0, none⟩ (.string s)).setCell ⟨gm, 1, none⟩ (.int .i64 a')).alloc (.cells #[.string s, .int .i64 a'] 35) = w5 at hC5 hM5 hB5 ⊢
          have HC5 := Lib.hid hC5
          have HM5 := Lib.hid hM5
          have HB5 := Lib.hid hB5
          have q1 := hM5.at
          clear hC5 hM5 hB5 n0 n1 f0 f1 hl4
          go_quiet ((first
            | (go_at_call 12; exact Calls.quiet_of_same (At_any w.heap.size s a' _ HC5.out))
            | (go_at_call 13; exact Calls.quiet_of (Left_int w.heap.size s a' _ HC5.out ha' hs))))
          go_wp2
          go_roundw
          case rel => exact ⟨k + 1, a', by go_num, by omega, ha', HC5.out, HM5.out, HB5.out.trans ⟨rfl, rfl, rfl, Nat.le_refl _, fun _ _ => rfl⟩⟩
          case measure => simp [intOf]; omega
        · have HD3 := Lib.hid hcj
          clear hcj
          go_wp2_with fail
          go_at_call 14
          refine (HR.out w3).mono ?_
          rintro e w4 ⟨rfl, b4⟩
          have hmk : Mem w4.heap.size s a' (w4.alloc (.cells #[.string s, .int .i64 a'] 35)) := heap_alloc_new _ _
          have h45 : Below w4.heap.size w4 (w4.alloc (.cells #[.string s, .int .i64 a'] 35)) := (Below.refl _ _).alloc (Nat.le_refl _) _
          have HC4 := Lib.hid (cur_on HC3.out b4)
          have HM4 := Lib.hid (HM3.out.on b4)
          have HD4 := Lib.hid (cur_on HD3.out b4)
          have HB4 := Lib.hid (HB3.out.trans (b4.mono HB3.out.size))
          have hjl := HD4.out.lt
          have hml := HM4.out.lt
          clear b4 m0 m1
          go_wp2_with fail
          have HK5 := Lib.hid hmk
          have HC5 := Lib.hid (cur_on HC4.out h45)
          have HM5 := Lib.hid (HM4.out.on h45)
          have HD5 := Lib.hid (cur_on HD4.out h45)
          have HB5 := Lib.hid (HB4.out.trans (h45.mono HB4.out.size))
          generalize w4.alloc (.cells #[.string s, .int .i64 a'] 35) = w5 at HK5 HC5 HM5 HD5 HB5 ⊢
          generalize w4.heap.size = gk at HK5 hjl hml ⊢
          clear h45 hmk
          go_at_call 13
          refine (Left_any j t 0 w5 HD5.out (Nat.zero_le _) (by unfold maxLen; omega)).mono ?_
          rintro e w6 ⟨rfl, n6, hw6⟩
          have HC6 : Hid (Cur w.heap.size s a' w6) := by rw [hw6]; exact HC5.out
          have HM6 : Hid (Mem gm s a w6) := by rw [hw6]; exact HM5.out
          have HD6 : Hid (Cur j t 0 w6) := by rw [hw6]; exact HD5.out
          have HK6 : Hid (Mem gk s a' w6) := by rw [hw6]; exact HK5.out
          have HB6 : Hid (Below w.heap.size w w6) := by rw [hw6]; exact HB5.out.trans ⟨rfl, rfl, rfl, Nat.le_refl _, fun _ _ => rfl⟩
          clear hw6 HC5 HM5 HD5 HK5 HB5
          go_wp2_with fail
          go_at_call 12
          refine (At_any j t 0 w6 HD6.out).mono ?_
          rintro e w7 ⟨rfl, hw7⟩
          rw [hw7]
          clear hw7 w7
          have hR7 := Rest_any j t 0 w6 HD6.out (by unfold maxLen; omega) (Nat.zero_le _)
          rw [show t.extract 0 t.size = t from by apply ByteArray.ext; simp] at hR7
          have HR7 := Lib.hid hR7
          clear hR7
          go_wp2_with fail
          go_at_call 18
          refine HR7.out.mono ?_
          rintro e w7 ⟨rfl, c7, b7⟩
          have HC7 := Lib.hid ((b7.block w.heap.size (by omega) HC6.out.lt).trans HC6.out)
          have HM7 := Lib.hid (HM6.out.but b7 (by omega))
          have HK7 := Lib.hid (HK6.out.but b7 (by omega))
          have HB7 := Lib.hid (HB6.out.trans (b7.below (by omega) HB6.out.size))
          have HL7 := Lib.hid (Left_any j t t.size w7 c7 (Nat.le_refl _) (by unfold maxLen; omega))
          clear c7 b7
          go_wp2_with fail
          go_at_call 13
          refine HL7.out.mono ?_
          rintro e w8 ⟨rfl, n8, hw8⟩
          have HC8 : Hid (Cur w.heap.size s a' w8) := by rw [hw8]; exact HC7.out
          have HM8 : Hid (Mem gm s a w8) := by rw [hw8]; exact HM7.out
          have HK8 : Hid (Mem gk s a' w8) := by rw [hw8]; exact HK7.out
          have HB8 : Hid (Below w.heap.size w w8) := by rw [hw8]; exact HB7.out.trans ⟨rfl, rfl, rfl, Nat.le_refl _, fun _ _ => rfl⟩
          have n0 := HM8.out.text
          have n1 := HM8.out.at
          have f0 := HM8.out.free 0
          have f1 := HM8.out.free 1
          have k0 := HK8.out.text
          have k1 := HK8.out.at
          clear hw8
          go_wp2
          obtain ⟨hC9, hM9, hB9⟩ := moved0 HC8.out HM8.out HB8.out (Nat.le_of_lt hgc) (Nat.ne_of_lt hgc)
          generalize (w8.setCell ⟨gm, 0, none⟩ (.string s)).setCell ⟨gm, 1, none⟩ (.int .i64 a') = w9 at hC9 hM9 hB9 ⊢
          have HC9 := Lib.hid hC9
          have HM9 := Lib.hid hM9
          have HB9 := Lib.hid hB9
          have q1 := hM9.at
          clear hC9 hM9 hB9 n0 n1 f0 f1 k0 k1
          go_quiet ((first
            | (go_at_call 12; exact Calls.quiet_of_same (At_any w.heap.size s a' _ HC9.out))
            | (go_at_call 13; exact Calls.quiet_of (Left_int w.heap.size s a' _ HC9.out ha' hs))))
          go_wp2
          go_roundw
          case rel => exact ⟨k + 1, a', by go_num, by omega, ha', HC9.out, HM9.out, HB9.out.trans ⟨rfl, rfl, rfl, Nat.le_refl _, fun _ _ => rfl⟩⟩
          case measure => simp [intOf]; omega
      · have h5' : (d : Int) % 5 = 4 := by omega
        clear h5
        have hmax : s.size ≤ maxLen := by unfold maxLen; omega
        have HT := Lib.hid (Rest_any w.heap.size s a wr.drew HC.out hmax ha)
        have m1 := HM.out.at
        clear hmax
        go_wp2
        go_region_with (go_at_call 18; refine HT.out.mono ?_; rintro e w3 ⟨rfl, c3, b3⟩; have m3 := (Mem.but (show Mem gm s a wr.drew from HM.out) b3 (Nat.ne_of_gt hgc)).at)
        all_goals
          have HC3 := Lib.hid c3
          have hm3 : Mem gm s a w3 := Mem.but (show Mem gm s a wr.drew from HM.out) b3 (Nat.ne_of_gt hgc)
          have HM3 := Lib.hid hm3
          have HB3 : Hid (Below w.heap.size w w3) := HB.out.trans (Below.trans (b := wr.drew) ⟨rfl, rfl, rfl, Nat.le_refl _, fun _ _ => rfl⟩ (b3.below (Nat.le_refl _) hBs))
          have f1 := hm3.free 1
          clear c3 b3 hm3
          go_wp2
          obtain ⟨hC5, hM5, hB5⟩ := moved1 HC3.out HM3.out HB3.out (Nat.le_of_lt hgc) (Nat.ne_of_lt hgc)
          generalize w3.setCell ⟨gm, 1, none⟩ (.int .i64 (s.size : Nat)) = w5 at hC5 hM5 hB5 ⊢
          have HC5 := Lib.hid hC5
          have HM5 := Lib.hid hM5
          have HB5 := Lib.hid hB5
          have q1 := hM5.at
          clear hC5 hM5 hB5
          go_quiet ((first
            | (go_at_call 12; exact Calls.quiet_of_same (At_any w.heap.size s s.size _ HC5.out))
            | (go_at_call 13; exact Calls.quiet_of (Left_int w.heap.size s s.size _ HC5.out (Nat.le_refl _) hs))))
          go_wp2
          go_roundw
          case rel => exact ⟨k + 1, s.size, by go_num, by omega, Nat.le_refl _, HC5.out, HM5.out, HB5.out.trans ⟨rfl, rfl, rfl, Nat.le_refl _, fun _ _ => rfl⟩⟩
          case measure => simp [intOf]; omega
    · obtain rfl : k = L.length := by omega
      go_wp2_with (go_at_call 8; refine (awake_any _).mono ?_; rintro e w' ⟨rfl, hb⟩)
      go_ret
      exact ⟨rfl, HB.out.trans (hb.mono HB.out.size)⟩
end Go.Proofs.Ytdfanplihheofaa
