/- A walk: what was put by a right table is read again, symbol by symbol. -/
import Derived.Test.YtmoennlpendknaaHBack0
import Derived.Test.YtmoennlpendknaaHPre
namespace Go.Proofs.Ytmoennlpendknaa
open Go.RowKit

set_option maxHeartbeats 2000000 in
theorem back_far (c : Nat → Nat) (s t : ByteArray) (hs : s.size ≤ maxLen) (ht : t.size ≤ maxLen) (hl : 200 < t.size ∨ 256 < s.size) (w : World) :
    Calls Try.prog 3 #[.agg (cnt c), .string s, .string t] w fun e w' => e = .returned (.bool true) ∧ Below w.heap.size w w' := by
  unfold maxLen at hs ht
  have HB0 := Lib.hid (below_box w (.cells (cnt c) 22))
  by_cases h1 : 200 < t.size
  · have h1' : (200 : Int) < (t.size : Int) := by omega
    clear hl
    go_enter Try.func3, Try.ntmps3
    go_wp2_with fail
    go_at_call 9
    refine (awake_any _).mono ?_
    rintro e w1 ⟨rfl, b1⟩
    have HB1 := Lib.hid (HB0.out.trans (b1.mono HB0.out.size))
    clear b1
    go_wp2_with fail
    go_at_call 9
    refine (awake_any _).mono ?_
    rintro e w2 ⟨rfl, b2⟩
    have HB2 := Lib.hid (HB1.out.trans (b2.mono HB1.out.size))
    clear b2
    go_wp2
    go_ret
    exact ⟨rfl, HB2.out⟩
  · have h1' : ¬ (200 : Int) < (t.size : Int) := by omega
    have h2' : (256 : Int) < (s.size : Int) := by omega
    clear hl
    go_enter Try.func3, Try.ntmps3
    go_wp2_with fail
    go_at_call 9
    refine (awake_any _).mono ?_
    rintro e w1 ⟨rfl, b1⟩
    have HB1 := Lib.hid (HB0.out.trans (b1.mono HB0.out.size))
    clear b1
    go_wp2_with fail
    go_at_call 9
    refine (awake_any _).mono ?_
    rintro e w2 ⟨rfl, b2⟩
    have HB2 := Lib.hid (HB1.out.trans (b2.mono HB1.out.size))
    clear b2
    go_wp2
    go_ret
    exact ⟨rfl, HB2.out⟩
set_option maxHeartbeats 2000000 in
theorem back_wrong (c : Nat → Nat) (hc : ∀ i, c i < 256) (s t : ByteArray) (hs : s.size ≤ 256) (ht : t.size ≤ 200) (hR : ¬ Right c s.data.toList) (w : World) :
    Calls Try.prog 3 #[.agg (cnt c), .string s, .string t] w fun e w' => e = .returned (.bool true) ∧ Below w.heap.size w w' := by
  have hl' : ¬ (256 : Int) < (s.size : Int) := by omega
  have hl2 : ¬ (200 : Int) < (t.size : Int) := by omega
  have HB0 := Lib.hid (below_box w (.cells (cnt c) 22))
  have HR0 := Lib.hid (RowC.new c w)
  have HN := Lib.hid (New_no c hc s (by unfold maxLen; omega) hR)
  clear hR
  go_enter Try.func3, Try.ntmps3
  go_wp2_with fail
  go_at_call 9
  refine (awake_any _).mono ?_
  rintro e w1 ⟨rfl, b1⟩
  have HR1 := Lib.hid (HR0.out.on b1)
  have HB1 := Lib.hid (HB0.out.trans (b1.mono HB0.out.size))
  clear b1
  go_wp2_with (refine wpList_counts (by rfl) _ rfl w.heap.size rfl c HR1.out ?_)
  go_at_call 10
  refine (HN.out _).mono ?_
  rintro e w2 ⟨rfl, b2⟩
  have HB2 := Lib.hid (HB1.out.trans (b2.mono HB1.out.size))
  clear b2
  go_wp2
  go_ret
  exact ⟨rfl, HB2.out⟩

set_option maxRecDepth 100000 in
set_option maxHeartbeats 8000000 in
theorem back_right (c : Nat → Nat) (hc : ∀ i, c i < 256) (s t : ByteArray) (ht : t.size ≤ 200) (hR : Right c s.data.toList) (w : World) :
    Calls Try.prog 3 #[.agg (cnt c), .string s, .string t] w fun e w' => e = .returned (.bool true) ∧ Below w.heap.size w w' := by
  have hs : s.size ≤ 256 := by have := hR.few; simpa using this
  have hl' : ¬ (256 : Int) < (s.size : Int) := by omega
  have hl2 : ¬ (200 : Int) < (t.size : Int) := by omega
  have HB0 := Lib.hid (below_box w (.cells (cnt c) 22))
  have HR0 := Lib.hid (RowC.new c w)
  have HN := Lib.hid (New_yes c hc s (by unfold maxLen; omega) hR)
  have HRR := Lib.hid hR
  have HCC := Lib.hid hc
  clear hR hc
  go_enter Try.func3, Try.ntmps3
  go_wp2_with fail
  go_at_call 9
  refine (awake_any _).mono ?_
  rintro e w1 ⟨rfl, b1⟩
  have HR1 := Lib.hid (HR0.out.on b1)
  have HB1 := Lib.hid (HB0.out.trans (b1.mono HB0.out.size))
  clear b1
  go_wp2_with (refine wpList_counts (by rfl) _ rfl w.heap.size rfl c HR1.out ?_)
  go_at_call 10
  refine (HN.out _).mono ?_
  rintro e w2 ⟨gt, rfl, t2, _, b2⟩
  have HR2 := Lib.hid (HR1.out.on b2)
  have HB2 := Lib.hid (HB1.out.trans (b2.mono HB1.out.size))
  have HT2 := Lib.hid t2
  clear b2 t2 hl' hl2 HN
  go_wp2_with fail
  go_at_call 11
  refine (New_bits w2).mono ?_
  rintro e w3 ⟨rfl, c3, b3⟩
  have HR3 := Lib.hid (HR2.out.on b3)
  have HB3 := Lib.hid (HB2.out.trans (b3.mono HB2.out.size))
  have HT3 := Lib.hid (HT2.out.on b3)
  have HW3 := Lib.hid c3
  have HG := Lib.hid (HB2.out.size)
  have hg3 := b3.size
  clear b3 c3
  generalize hgg : w2.heap.size = g at *
  generalize huu : w.heap.size = u at *
  have HUU := Lib.hid huu
  clear hgg huu
  go_wp2
  go_loopw [10, 11] (fun v i wr => ∃ (k : Nat) (I : List Nat), k ≤ t.size ∧ i = .int .i64 k ∧ I.length ≤ k ∧ (∀ i ∈ I, i < s.size) ∧ OwnN g v (symI s I) wr ∧ WB g g [] (bitsI c I) wr ∧ Tbl gt c s wr ∧ RowC u c wr ∧ Below u w wr ∧ g ≤ wr.heap.size) (fun _ i _ => t.size - (intOf i).toNat)
  case atStart => exact ⟨0, [], by omega, rfl, by simp, by simp, World.ownsRow_nil _ _ _ _, HW3.out, HT3.out, HR3.out, HB3.out, hg3⟩
  case round =>
    obtain ⟨k, I, hk, rfl, hIl, hI, hO, hW, hT, hRow, hB, hg⟩ := hrel
    have HI := Lib.hid hI
    have HO := Lib.hid hO
    have HW := Lib.hid hW
    have HT := Lib.hid hT
    have HRow := Lib.hid hRow
    have HB := Lib.hid hB
    have hbl := bitsI_length HRR.out I hI
    clear hI hO hW hT hRow hB
    by_cases hlt : k < t.size
    · have hb : t[k].toNat < 256 := t[k].toNat_lt
      rcases at_or s t[k].toNat hb with ⟨i, hi, hx⟩ | hno
      · have hC := Code_yes gt c HCC.out s HRR.out i hi wr HT.out
        have hP := TPut_yes g gt g c HCC.out s HRR.out i hi [] (bitsI c I) wr HT.out HW.out (by simp; omega)
        rw [← hx] at hC hP
        have HC := Lib.hid hC
        have HP := Lib.hid hP
        have HS := Lib.hid (symI_snoc s I i hi)
        have HBS := Lib.hid (bitsI_snoc c I i)
        have hx2 := hx
        rw [← hx] at HS
        have HII : Hid (∀ j ∈ I ++ [i], j < s.size) := by
          intro j hj
          rw [List.mem_append, List.mem_singleton] at hj
          rcases hj with hj | rfl
          · exact HI.out j hj
          · exact hi
        have hsl : (symI s I).length ≤ 200 := by rw [symI_length]; omega
        clear hC hP hx hx2 hbl
        generalize symI s I = A at *
        generalize bitsI c I = L at *
        generalize codeN c i = X at *
        generalize codeL c i = Y at *
        go_wp2_with (go_at_call 12; refine HC.out.mono ?_; rintro e w' ⟨rfl, rfl⟩)
        go_at_call 13
        refine HP.out.mono ?_
        rintro e w4 ⟨rfl, c4, b4, k4⟩
        have HO4 := Lib.hid (HO.out.oth HW.out k4)
        have HW4 := Lib.hid c4
        have HT4 := Lib.hid (HT.out.oth HW.out k4)
        have HRow4 : Hid (RowC u c w4) := by obtain ⟨cs, hcs⟩ := HW.out.cells; exact kept_oth HRow.out hcs (by decide) (by decide) k4
        have HB4 : Hid (Below u w w4) := HB.out.trans (b4.mono HG.out)
        have hg4 : g ≤ w4.heap.size := Nat.le_trans hg b4.size
        clear c4 b4 k4 HP HC
        go_wp2_with (at_builtin; refine wpList_appN rfl _ _ rfl g u10 A (t[k].toNat) rfl rfl HO4.out (by omega) hg4 ?_)
        intro v5 w5 o5 b5 k5
        have HO5 := Lib.hid o5
        have HW5 := Lib.hid (HW4.out.othI k5)
        have HT5 := Lib.hid (HT4.out.othI k5)
        have HRow5 : Hid (RowC u c w5) := kept_oth0 HRow4.out (by decide) k5
        have HB5 : Hid (Below u w w5) := HB4.out.trans (b5.mono HG.out)
        have hg5 : g ≤ w5.heap.size := Nat.le_trans hg4 b5.size
        clear o5 b5 k5
        go_wp2
        go_roundw
        case rel => exact ⟨k + 1, I ++ [i], by omega, by go_num, by simp; omega, HII.out, by rw [HS.out]; exact HO5.out, by rw [HBS.out]; exact HW5.out, HT5.out, HRow5.out, HB5.out, hg5⟩
        case measure => simp [intOf]; omega
      · have HC := Lib.hid (Code_no gt c s t[k].toNat hb hno wr HT.out)
        have HP := Lib.hid (TPut_no gt g c s t[k].toNat hb hno wr HT.out)
        clear hno hbl
        go_wp2_with (first
          | (go_at_call 12; refine HC.out.mono ?_; rintro e w' ⟨rfl, rfl⟩)
          | (go_at_call 13; refine HP.out.mono ?_; rintro e w' ⟨rfl, rfl⟩))
        go_roundw
        case rel => exact ⟨k + 1, I, by omega, by go_num, by omega, HI.out, HO.out, HW.out, HT.out, HRow.out, HB.out, hg⟩
        case measure => simp [intOf]; omega
    · obtain rfl : k = t.size := by omega
      have hC := fun W (h : WB g g [] (bitsI c I) W) => Bytes_bits g g [] (bitsI c I) W h (by simp; omega)
      obtain ⟨p, hp⟩ := stream_stuff (bitsI c I)
      obtain ⟨x, hx⟩ : ∃ x : ByteArray, x = ⟨([] ++ stuff (bitsI c I)).toArray⟩ := ⟨_, rfl⟩
      rw [← hx] at hC
      have hxl : x.data.toList = stuff (bitsI c I) := by rw [hx]; rfl
      have hxs : x.size ≤ maxLen := by
        have := stuff_length (bitsI c I).length (bitsI c I) (by omega)
        rw [Lib.size_eq, hxl]
        unfold maxLen
        omega
      rw [← hxl] at hp
      have HC := Lib.hid hC
      have HX := Lib.hid hxs
      have HP := Lib.hid hp
      have hsl : (symI s I).length = I.length := symI_length s I
      have hIl2 : I.length ≤ 200 := by omega
      clear hC hx hxl hxs hp hbl hlt
      obtain ⟨q, cq, rfl⟩ := HO.out.len
      go_wp2_with fail
      go_at_call 15
      refine (HC.out wr HW.out).mono ?_
      rintro e w4 ⟨rfl, b4⟩
      have HO4 := Lib.hid (HO.out.below b4)
      have HT4 := Lib.hid (HT.out.on b4)
      have HRow4 := Lib.hid (HRow.out.on b4)
      have HB4 : Hid (Below u w w4) := HB.out.trans (b4.mono (Nat.le_trans HG.out hg))
      have hg4 : g ≤ w4.heap.size := Nat.le_trans hg b4.size
      clear b4 HO HT HRow HB HW HC
      go_wp2_with fail
      go_at_call 14
      refine (NewReader_bits x HX.out w4).mono ?_
      rintro e w5 ⟨rfl, c5, b5⟩
      have HO5 := Lib.hid (HO4.out.below b5)
      have HT5 := Lib.hid (HT4.out.on b5)
      have HRow5 := Lib.hid (HRow4.out.on b5)
      have HB5 : Hid (Below u w w5) := HB4.out.trans (b5.mono (Nat.le_trans HG.out hg4))
      have hg5 : g ≤ w5.heap.size := Nat.le_trans hg4 b5.size
      rw [HP.out] at c5
      have HS5 := Lib.hid c5
      have hgr : g ≤ w4.heap.size := hg4
      clear c5 b5 HO4 HT4 HRow4 HB4
      generalize w4.heap.size = r at *
      go_wp2
      go_loopw [17] (fun i wq => ∃ j : Nat, i = .int .i64 j ∧ j ≤ I.length ∧ RdS r x (bitsI c (I.drop j) ++ List.replicate p true) wq ∧ OwnN g (.slice q (symI s I).length cq) (symI s I) wq ∧ Tbl gt c s wq ∧ RowC u c wq ∧ Below u w wq ∧ g ≤ wq.heap.size) (fun i _ => I.length - (intOf i).toNat)
      case atStart => exact ⟨0, rfl, Nat.zero_le _, HS5.out, HO5.out, HT5.out, HRow5.out, HB5.out, hg5⟩
      case round =>
        obtain ⟨j, rfl, hj, hS, hO, hT, hRow, hB, hg'⟩ := hrel
        have HS := Lib.hid hS
        have HO := Lib.hid hO
        have HT := Lib.hid hT
        have HRow := Lib.hid hRow
        have HB := Lib.hid hB
        clear hS hO hT hRow hB HS5 HO5 HT5 HRow5 HB5
        by_cases hlt : j < I.length
        · have hIj := HI.out I[j] (List.getElem_mem hlt)
          have hN := Next_any gt r c HCC.out s HRR.out x HX.out (bitsI c (I.drop j) ++ List.replicate p true) wr HT.out HS.out
          rw [decode_next HRR.out I j hlt hIj] at hN
          simp only at hN
          have HN := Lib.hid hN
          obtain ⟨q', rfl, hcell⟩ := HO.out.cell (show j < (symI s I).length by rw [hsl]; exact hlt)
          rw [symI_at s I j hlt hIj] at hcell
          have HCELL := Lib.hid hcell
          have hsb : s[I[j]].toNat < 256 := s[I[j]].toNat_lt
          generalize s[I[j]].toNat = y at *
          clear hN hcell hIj
          go_wp2_with fail
          go_at_call 16
          refine HN.out.mono ?_
          rintro e w6 ⟨rfl, c6, b6⟩
          have HO6 := Lib.hid (HO.out.but HS.out b6)
          have HT6 := Lib.hid (HS.out.tbl HT.out b6)
          have HRow6 : Hid (RowC u c w6) := by obtain ⟨cs, fz, hcs⟩ := HS.out.cells; exact kept_but HRow.out hcs (by decide) b6
          have HB6 : Hid (Below u w w6) := HB.out.trans (b6.below (Nat.le_trans HG.out hgr) (Nat.le_trans HG.out hg'))
          have hg6 : g ≤ w6.heap.size := Nat.le_trans hg' b6.size
          have HS6 := Lib.hid c6
          have x6 := HCELL.out w6 HO6.out
          clear c6 b6 HN
          go_wp2
          go_roundw
          case rel => exact ⟨j + 1, by go_num, by omega, HS6.out, HO6.out, HT6.out, HRow6.out, HB6.out, hg6⟩
          case measure => simp [intOf]; omega
        · obtain rfl : j = I.length := by omega
          have hq := eq22 c
          have hgd := guard22
          have hnb := nonempty_bel
          have HROW := Lib.hid (bel_row HRow.out)
          clear hlt
          go_wp2
          refine wp_region_bel (w := wr) (Below.refl _ _) (by kernel_rfl) (by kernel_rfl) ?_
          repeat (first
            | refine wpQuiet_counts _ rfl (by rfl) u rfl c HROW.out ?_
            | quiet_step (first
                | (go_at_call 17; exact bel_same (Symbols_any gt c s _ (HT.out.on (Bel.h _))))
                | (go_at_call 18; exact bel_of (Counts_any gt c s _ (HT.out.on (Bel.h _))))))
          refine wpQuiet_nil ?_
          rintro _ ⟨z, rfl⟩
          go_wp2
          go_ret
          exact ⟨rfl, by rw [HUU.out]; exact HB.out.trans (z.h.mono (Nat.le_trans HG.out hg'))⟩
theorem HuffBack_any (c : Nat → Nat) (s t : ByteArray) (w : World) (hc : ∀ i, c i < 256) (hs : s.size ≤ maxLen) (ht : t.size ≤ maxLen) :
    Calls Try.prog 3 #[.agg (cnt c), .string s, .string t] w fun e w' => e = .returned (.bool true) ∧ Below w.heap.size w w' := by
  by_cases h : 200 < t.size ∨ 256 < s.size
  · exact back_far c s t hs ht h w
  · by_cases hR : Right c s.data.toList
    · exact back_right c hc s t (by omega) hR w
    · exact back_wrong c hc s t (by omega) (by omega) hR w
end Go.Proofs.Ytmoennlpendknaa
