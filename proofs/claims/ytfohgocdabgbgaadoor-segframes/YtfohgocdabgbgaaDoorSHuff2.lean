/- A table of codes: the walk. -/
import Derived.Test.YtfohgocdabgbgaaDoorSHuff
namespace Go.Proofs.YtfohgocdabgbgaaDoor
open Go.RowKit

theorem size74 (x : HT) : (Tryd.prog.info? 74).map (·.size) = some (cellsH x).size := by rw [cellsH_size]; kernel_rfl
/-- The loop's state: the reader, the table that is filled, the result's block. -/
structure HS (B k c : Nat) (s : ByteArray) (q : Nat × Nat) (a b : Int) (w : World) (j : Nat) (wr : World) : Prop where
  rd : Rdd B k c s (rcs s q j) wr
  row : wr.heap[w.heap.size + 1]? = some (.cells (cellsH (a, b, cutk (rcnt s q) j, ⟨#[]⟩)) 74 (0, 0))
  res : wr.heap[w.heap.size]? = some (.cells (cellsH (0, 0, fun _ => 0, ⟨#[]⟩)) 74 (0, 0))
  low : Two k c w wr
theorem HS.next {B k c : Nat} {s : ByteArray} {q : Nat × Nat} {a b : Int} {w : World} {j : Nat} {wr w2 : World} (h : HS B k c s q a b w j wr) (hj : j < 16) (hK : w.heap.size ≠ k ∧ w.heap.size ≠ c ∧ w.heap.size + 1 ≠ k ∧ w.heap.size + 1 ≠ c) (hr : Rdd B k c s (rcs s q (j + 1)) w2) (hb : Two k c wr w2) {z : Int} (hz : z = (rcnt s q j : Nat)) :
    HS B k c s q a b w (j + 1) (w2.setCell ⟨w.heap.size + 1, 2 + j, none⟩ (.int .u8 z)) := by
  subst hz
  have h1 : w.heap.size + 1 < wr.heap.size := (Array.getElem?_eq_some_iff.1 h.row).1
  have h2 := (hb.block _ hK.2.2.1 hK.2.2.2 h1).trans h.row
  have h3 := (hb.block _ hK.1 hK.2.1 (by omega)).trans h.res
  refine ⟨hr.keep (heap_setCell_other _ _ _ _ (Ne.symm hK.2.2.1)) (heap_setCell_other _ _ _ _ (Ne.symm hK.2.2.2)), ?_, ?_, Two.cell (h.low.trans hb) (Nat.le_succ _) _⟩
  · rw [heap_setCell_same w2 _ (2 + j) _ 74 _ h2, cellsH_count _ _ _ _ hj]
  · rw [heap_setCell_other _ _ _ _ (by show w.heap.size ≠ w.heap.size + 1; omega)]
    exact h3
theorem New_one (c : Nat → Nat) (hc : ∀ i, c i < 256) (s : ByteArray) (hs : s.size ≤ maxLen) (w : World) :
    Calls Tryd.prog 78 #[.agg (cnt c), .string s] w fun e w' => ∃ v E, e = .returned (.tuple #[v, .int .i64 E]) ∧ (E == 0) = rightB c s.data.toList ∧ Below w.heap.size w w' := by
  by_cases h : Right c s.data.toList
  · rw [(rightB_iff c _).2 h]
    exact (New_yes c hc s hs h w).mono fun e w' ⟨g, h1, _, _, h2⟩ => ⟨_, 0, h1, rfl, h2⟩
  · have e : rightB c s.data.toList = false := by
      cases hb : rightB c s.data.toList
      · rfl
      · exact absurd ((rightB_iff c _).1 hb) h
    rw [e]
    exact (New_no c hc s hs h w).mono fun e w' ⟨h1, h2⟩ => ⟨_, 5, h1, rfl, h2⟩
theorem cnt_cells {g : Nat} {a b : Int} {c : Nat → Nat} {s : ByteArray} {w : World} (h : w.heap[g]? = some (.cells (cellsH (a, b, c, s)) 74 (0, 0))) (j : Nat) (hj : j < (cnt c).size) : w.cell? ⟨g, 2 + j, none⟩ = (cnt c)[j]? := by
  rw [cnt_size] at hj
  rw [cell_of_row w g _ _ 74 (0, 0) h, cellsH_get, if_neg (by omega), if_neg (by omega), if_pos (by omega), cnt_at c j hj]
  simp
set_option maxHeartbeats 2000000 in
theorem huff_two (B k c : Nat) (s : ByteArray) (hs : s.size ≤ maxLen) (p : Nat × Nat) (w : World) (h : Rdd B k c s p w) :
    Calls Tryd.prog 59 #[.pointer (some ⟨k, 0, none⟩)] w fun e w' => e = .returned (.agg (cellsH (rhuff s p).1)) ∧ Rdd B k c s (rhuff s p).2 w' ∧ Two k c w w' := by
  have HP := Lib.hid fun x hx => place_two B k c s hs p x hx
  have HK := Lib.hid (show w.heap.size ≠ k ∧ w.heap.size ≠ c ∧ w.heap.size + 1 ≠ k ∧ w.heap.size + 1 ≠ c from ⟨by have := h.lt; omega, by have := h.cur.lt; omega, by have := h.lt; omega, by have := h.cur.lt; omega⟩)
  have H0 := Lib.hid h
  clear h
  unfold rhuff
  simp only []
  generalize (rplace s p).1.1 = a at *
  generalize (rplace s p).1.2 = b at *
  generalize (rplace s p).2 = q at *
  have HN := Lib.hid fun j x hx => num_two B k c s hs (rcs s q j) 1 (by omega) (by omega) x hx
  have HT := Lib.hid fun n j x hx => take_two B k c s hs (rcs s q j) n x hx
  go_enter Tryd.func59, Tryd.ntmps59
  have HZ : Hid (∀ W, W = (w.alloc (.cells (cellsH (0, 0, fun _ => 0, ⟨#[]⟩)) 74)).alloc (.cells (cellsH (0, 0, fun _ => 0, ⟨#[]⟩)) 74) → Rdd B k c s p W ∧ Two k c w W ∧ W.heap[w.heap.size]? = some (.cells (cellsH (0, 0, fun _ => 0, ⟨#[]⟩)) 74 (0, 0)) ∧ W.heap[w.heap.size + 1]? = some (.cells (cellsH (0, 0, fun _ => 0, ⟨#[]⟩)) 74 (0, 0)) ∧ w.heap.size + 1 < W.heap.size) := by
    rintro W rfl
    have hb : Below w.heap.size w ((w.alloc (.cells (cellsH (0, 0, fun _ => 0, ⟨#[]⟩)) 74)).alloc (.cells (cellsH (0, 0, fun _ => 0, ⟨#[]⟩)) 74)) := (below_new _ _).alloc (by rw [size_alloc]; omega) _
    refine ⟨H0.out.on hb, Two.of hb, ?_, ?_, by rw [size_alloc, size_alloc]; omega⟩
    · rw [Below.heap_alloc _ _ _ (by rw [size_alloc]; omega)]
      exact heap_alloc_new _ _
    · have h := heap_alloc_new (w.alloc (.cells (cellsH (0, 0, fun _ => 0, ⟨#[]⟩)) 74)) (.cells (cellsH (0, 0, fun _ => 0, ⟨#[]⟩)) 74)
      rw [size_alloc] at h
      exact h
  go_wp2_with (go_at_call 76; obtain ⟨z1, z2, z3, z4, z5⟩ := HZ.out _ rfl; refine (HP.out _ z1).mono ?_; rintro e w1 ⟨rfl, hr, hb⟩; have H2 := Lib.hid hr; have HB1 := Lib.hid (z2.trans hb); have HR1 := Lib.hid ((hb.block _ HK.out.1 HK.out.2.1 (by omega)).trans z3); have hblk := (hb.block _ HK.out.2.2.1 HK.out.2.2.2 z5).trans z4; have HH1 := Lib.hid hblk; have y0 : w1.cell? ⟨w.heap.size + 1, 0, none⟩ = some (.int .i64 0) := Lib.cell_of_heap hblk 0; have y1 : w1.cell? ⟨w.heap.size + 1, 1, none⟩ = some (.int .i64 0) := Lib.cell_of_heap hblk 1; have f0 := Lib.frozen_of_heap hblk 0; have f1 := Lib.frozen_of_heap hblk 1; clear hr hb HP z1 z2 z3 z4 z5 hblk)
  have HS0 : Hid (HS B k c s q a b w 0 ((w1.setCell ⟨w.heap.size + 1, 0, none⟩ (.int .i64 a)).setCell ⟨w.heap.size + 1, 1, none⟩ (.int .i64 b))) := by
    refine ⟨(H2.out.keep (heap_setCell_other _ _ _ _ (Ne.symm HK.out.2.2.1)) (heap_setCell_other _ _ _ _ (Ne.symm HK.out.2.2.2))).keep (heap_setCell_other _ _ _ _ (Ne.symm HK.out.2.2.1)) (heap_setCell_other _ _ _ _ (Ne.symm HK.out.2.2.2)), ?_, ?_, Two.cell (Two.cell HB1.out (Nat.le_succ _) _) (Nat.le_succ _) _⟩
    · have e1 := heap_setCell_same w1 _ 0 _ 74 (.int .i64 (a : Int)) HH1.out
      have e2 := heap_setCell_same _ _ 1 _ 74 (.int .i64 (b : Int)) e1
      rw [cellsH_first] at e2
      exact e2
    · rw [heap_setCell_other _ _ _ _ (by show w.heap.size ≠ w.heap.size + 1; omega), heap_setCell_other _ _ _ _ (by show w.heap.size ≠ w.heap.size + 1; omega)]
      exact HR1.out
  clear H2 HB1 HR1 HH1 y0 y1 f0 f1
  go_loopw [4, 16] (fun x i wr => ∃ j : Nat, i = .int .i64 j ∧ x = .int .i64 (off (rcnt s q) j : Nat) ∧ j ≤ 16 ∧ HS B k c s q a b w j wr) (fun _ i _ => 16 - (intOf i).toNat)
  case atStart => exact ⟨0, rfl, rfl, Nat.zero_le _, HS0.out⟩
  case round =>
    obtain ⟨j, rfl, rfl, hj, hS⟩ := hrel
    have HS1 := Lib.hid hS
    clear hS HS0
    have HO : Hid (off (rcnt s q) (j + 1) = off (rcnt s q) j + rcnt s q j) := rfl
    have hob := off_bound (rcnt s q) (rcnt_lt s q) j
    by_cases hlt : j < 16
    · have HC := Lib.hid (HN.out j _ HS1.out.rd)
      have hv : Hid ((rnum s 1 (rcs s q j)).1 = rcnt s q j) := rfl
      have hq : Hid ((rnum s 1 (rcs s q j)).2 = rcs s q (j + 1)) := rfl
      rw [hv.out, hq.out] at HC
      have hv2 := rcnt_lt s q j
      generalize hn : rcnt s q j = n at *
      have HV := Lib.hid hn
      generalize off (rcnt s q) j = O at *
      clear hn hv hq
      go_wp2_with (go_at_call 46; refine HC.out.mono ?_; rintro e w3 ⟨rfl, hr, hb⟩; have H3 := Lib.hid hr; have HB3 := Lib.hid hb; have hrow := (hb.block _ HK.out.2.2.1 HK.out.2.2.2 (Array.getElem?_eq_some_iff.1 HS1.out.row).1).trans HS1.out.row; have x1 : w3.cell? ⟨w.heap.size + 1, 2 + j, none⟩ = some (.int .u8 0) := (by rw [cell_of_row w3 _ (2 + j) _ 74 (0, 0) hrow, cellsH_get, if_neg (by omega), if_neg (by omega), if_pos (by omega)]; simp [cutk]); have x2 := Lib.frozen_of_heap hrow (2 + j); clear hr hb hrow HC)
      go_roundw
      case rel => exact ⟨j + 1, by go_num, by rw [HO.out]; go_num, by omega, HS1.out.next hlt HK.out H3.out HB3.out (by rw [HV.out])⟩
      case measure => simp [intOf]; omega
    · obtain rfl : j = 16 := by omega
      have HTK := Lib.hid (HT.out (off (rcnt s q) 16) 16 _ HS1.out.rd)
      have hts := rtake_size s (off (rcnt s q) 16) (rcs s q 16)
      have HRW := HS1.out.row
      rw [cellsH_all] at HRW
      have HRW1 := Lib.hid HRW
      have HCC := Lib.hid (rcnt_lt s q)
      have HG := Lib.hid (Array.getElem?_eq_some_iff.1 HRW).1
      clear HRW HO
      generalize hT : (rtake s (off (rcnt s q) 16) (rcs s q 16)).1 = T at *
      generalize hq2 : (rtake s (off (rcnt s q) 16) (rcs s q 16)).2 = q2 at *
      have HET := Lib.hid hT
      have HEQ := Lib.hid hq2
      generalize hOO : off (rcnt s q) 16 = O at *
      have HEO := Lib.hid hOO
      have HNW := Lib.hid fun x => New_one (rcnt s q) HCC.out T (Nat.le_trans hts hs) x
      obtain ⟨r, hr⟩ : ∃ r, r = rightB (rcnt s q) T.data.toList := ⟨_, rfl⟩
      have HER := Lib.hid hr
      rw [← hr] at HNW
      have HND := Lib.hid fun x hx => need_any B k c s q2 r 5 x hx
      clear hr hts hT hq2 hOO
      go_wp2_with (first
        | (go_at_call 77; refine HTK.out.mono ?_; rintro e w3 ⟨rfl, hr, hb⟩; have H3 := Lib.hid hr; have HB3 := Lib.hid (HS1.out.low.trans hb); have hrow := (hb.block _ HK.out.2.2.1 HK.out.2.2.2 HG.out).trans HRW1.out; have HR3 := Lib.hid hrow; have HZ3 := Lib.hid ((hb.block _ HK.out.1 HK.out.2.1 (by have := HG.out; omega)).trans HS1.out.res); have x1 : w3.cell? ⟨w.heap.size + 1, 18, none⟩ = some (.string ⟨#[]⟩) := (by rw [cell_of_row w3 _ 18 _ 74 (0, 0) hrow, cellsH_get]; rfl); have x2 := Lib.frozen_of_heap hrow 18; have HR4 := Lib.hid (heap_setCell_same w3 _ 18 _ 74 (.string T) hrow); rw [cellsH_text] at HR4; clear hr hb hrow HTK)
        | refine wpList_load_at rfl 71 _ rfl Tryd.underlying71 rfl (w.heap.size + 1) 2 rfl (cnt (rcnt s q)) (size22 _) (cnt_cells HR4.out) ?_
        | (go_at_call 78; refine (HNW.out _).mono ?_; rintro e w4 ⟨v4, E, rfl, hE, hb⟩; have HB4 := Lib.hid hb; have hlt := (Array.getElem?_eq_some_iff.1 HR4.out).1; have HR5 := Lib.hid ((hb.block _ hlt).trans HR4.out); have hz := (heap_setCell_other w3 ⟨w.heap.size + 1, 18, none⟩ w.heap.size (.string T) (by show w.heap.size ≠ w.heap.size + 1; omega)).trans HZ3.out; have HZ5 := Lib.hid ((hb.block _ (Array.getElem?_eq_some_iff.1 hz).1).trans hz); have h3 := H3.out.keep (heap_setCell_other w3 ⟨w.heap.size + 1, 18, none⟩ k (.string T) (Ne.symm HK.out.2.2.1)) (heap_setCell_other w3 ⟨w.heap.size + 1, 18, none⟩ c (.string T) (Ne.symm HK.out.2.2.2)); have H5 := Lib.hid (h3.on hb); have HB5 := Lib.hid ((Two.cell (i := 18) HB3.out (Nat.le_succ _) (.string T)).trans (Two.of hb)); clear hb hlt hz h3 HNW)
        | (go_at_call 23; refine (HND.out _ H5.out).mono ?_; rintro e w6 ⟨rfl, hr, _, hb⟩; have H6 := Lib.hid hr; have hb2 := Two.left (c := c) hb; have HB6 := Lib.hid (HB5.out.trans hb2); have HR6 := Lib.hid ((hb2.block _ HK.out.2.2.1 HK.out.2.2.2 (Array.getElem?_eq_some_iff.1 HR5.out).1).trans HR5.out); have HZ6 := Lib.hid ((hb2.block _ HK.out.1 HK.out.2.1 (Array.getElem?_eq_some_iff.1 HZ5.out).1).trans HZ5.out); clear hr hb hb2 HND)
        | refine wpList_load_row rfl 74 _ rfl (w.heap.size + 1) rfl 74 _ (0, 0) _ HR6.out Tryd.underlying74 rfl (size74 _) ?_
        | refine wpList_store_row rfl 74 _ _ rfl w.heap.size (cellsH (a, b, rcnt s q, T)) rfl rfl 74 _ HZ6.out (size74 _) ((cellsH_size _).trans (cellsH_size _).symm) (cellsH_one _) ?_)
      have hF : (w6.setRow w.heap.size (cellsH (a, b, rcnt s q, T))).heap[w.heap.size]? = some (.cells (cellsH (a, b, rcnt s q, T)) 74 (0, 0)) := setRow_heap _ _ _ _ 74 (0, 0) HZ6.out
      refine bodyPost_ret_by (results_cell_row rfl _ _ w.heap.size 74 _ (0, 0) _ rfl hF Tryd.underlying74 rfl (size74 _)) rfl ⟨?_, ?_, ?_⟩
      · rw [HEO.out, HET.out]
      · rw [HEO.out, HET.out, HEQ.out, ← HER.out]
        exact H6.out.keep (setRow_other w6 _ _ _ (Ne.symm HK.out.1)) (setRow_other w6 _ _ _ (Ne.symm HK.out.2.1))
      · exact HB6.out.row (Nat.le_refl _) _
end Go.Proofs.YtfohgocdabgbgaaDoor
