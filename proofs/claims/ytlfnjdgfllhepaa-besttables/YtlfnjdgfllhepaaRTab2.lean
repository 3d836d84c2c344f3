/- The document's Table: its walk. -/
import Derived.Test.YtlfnjdgfllhepaaRTab1
namespace Go.Proofs.Ytlfnjdgfllhepaa
open Go.RowKit

set_option maxHeartbeats 4000000 in
set_option maxRecDepth 100000 in
theorem RTable_yes (f : Nat → Nat) (fi : Nat → Int) (hfi : ∀ i, i < 256 → fi i = f i) (hf : ∀ i, i < 256 → f i ≤ 1099511627776) (y : Nat) (hy : y < 256) (hfy : f y ≠ 0) (C : Nat → Nat) (hC : C = tabC f) (S : ByteArray) (hS : S = ⟨(tabS f).toArray⟩) (w : World) :
    Calls Try.prog 13 #[.agg (ints 256 fi)] w fun e w' => e = .returned (.tuple #[.agg (cnt C), .string S, .int .i64 0]) ∧ Below w.heap.size w w' := by
  have hll := lens_all f y hy hfy
  obtain ⟨T, hk, _⟩ := hll.kr
  have HC := Lib.hid hC
  have HS := Lib.hid hS
  have HLE := Lib.hid hll.le
  unfold tabC at HC
  unfold tabS at HS
  have HL := Lib.hid (RLengths_any f fi hfi hf)
  obtain ⟨L, hL⟩ : ∃ L, L = lens f := ⟨_, rfl⟩
  rw [← hL] at hk HC HS HL HLE
  obtain ⟨X, hX⟩ : ∃ X : Nat → Int, X = fun i => (L i : Int) := ⟨_, rfl⟩
  have HX := Lib.hid hX
  rw [← hX] at HL
  have HK := Lib.hid (show Kr (m0 L 257) 299 T from hk.up 43)
  have HK6 := Lib.hid hk
  have HFI := Lib.hid hfi
  have HF := Lib.hid hf
  have HY := Lib.hid hfy
  obtain ⟨wb, hwb⟩ : ∃ wb, wb = (((w.alloc (.cells (ints 256 fi) 22)).alloc (.cells (cnt fun _ => 0) 23)).alloc (.cells (cnt fun _ => 0) 23)) := ⟨_, rfl⟩
  have HT : Hid (DSt w.heap.size fi w wb) := hwb ▸ DSt.start fi w
  have hz23 := zero23
  have hz47 := zero47
  have hz58 := zero58
  clear hfi hf hfy hC hS hll hk hL hX
  go_enter Try.func13, Try.ntmps13
  go_wp2
  rw [← hwb]
  clear hwb hz23
  go_loopw [6, 7] (fun a i wr => ∃ (n : Nat) (b : Bool), n ≤ 256 ∧ i = .int .i64 n ∧ a = .bool b ∧ (b = true ↔ ∃ j, j < n ∧ f j ≠ 0) ∧ wr = wb) (fun _ i _ => 256 - (intOf i).toNat)
  case atStart => exact ⟨0, false, by omega, rfl, rfl, any_zero f, rfl⟩
  case round =>
    obtain ⟨n, b, hn, rfl, rfl, h1, rfl⟩ := hrel
    have H1 := Lib.hid h1
    clear h1
    by_cases hlt : n < 256
    · have x0 := HT.out.arg.cell (i := n) (by omega)
      rw [HFI.out n hlt] at x0
      have hfn := HF.out n hlt
      cases b
      · by_cases h0 : f n = 0
        · have HN := Lib.hid (any_no H1.out h0)
          have e0 : decide (0 < f n) = false := decide_eq_false (by omega)
          rw [h0] at x0
          clear H1 h0
          go_wp2
          go_roundw
          case rel => exact ⟨n + 1, false, by omega, by go_num, rfl, HN.out, by trivial⟩
          case measure => simp [intOf]; omega
        · have HN := Lib.hid (any_yes (n := n) h0)
          have e0 : decide (0 < f n) = true := decide_eq_true (by omega)
          clear H1 h0
          go_wp2
          go_roundw
          case rel => exact ⟨n + 1, true, by omega, by go_num, by simp, HN.out, by trivial⟩
          case measure => simp [intOf]; omega
      · have HN := Lib.hid (any_on H1.out)
        clear H1
        go_wp2
        go_roundw
        case rel => exact ⟨n + 1, true, by omega, by go_num, rfl, HN.out, by trivial⟩
        case measure => simp [intOf]; omega
    · obtain rfl : n = 256 := by omega
      obtain rfl : b = true := H1.out.2 ⟨y, hy, HY.out⟩
      clear hlt H1
      go_wp2_with (first
        | refine wpList_load_row rfl 22 _ rfl w.heap.size rfl 22 _ (0, 0) _ HT.out.arg Try.underlying22 rfl (size22i _) ?_
        | (go_at_call 26; refine (HL.out _).mono ?_; rintro e w2 ⟨rfl, hb2⟩; have HT2 := Lib.hid (HT.out.on hb2); clear hb2 HL)
        | refine wpList_store_row rfl 47 _ _ rfl w2.heap.size _ rfl rfl 47 _ (heap_alloc_new _ _) (size47i _) ((ints_size _ _).trans (ints_size _ _).symm) (ints_one _ X) ?_)
      obtain ⟨w3, hw3⟩ : ∃ w3, w3 = (((w2.alloc (Obj.cells (ints 257 fun x => 0) 47)).setRow w2.heap.size (ints 257 X)).alloc (Obj.cells (ints 300 fun x => 0) 58)) := ⟨_, rfl⟩
      rw [← hw3]
      have HE : Hid (ESt w.heap.size w2.heap.size (w2.heap.size + 1) L (m0 L 0) (fun _ => 0) w w3) := by
        have hsz : ((w2.alloc (Obj.cells (ints 257 fun x => 0) 47)).setRow w2.heap.size (ints 257 X)).heap.size = w2.heap.size + 1 := by rw [setRow_size, size_alloc]
        have hbx : Below w2.heap.size w2 w3 := by
          rw [hw3]
          exact (below_setRow ((Below.refl _ _).alloc (Nat.le_refl _) _) (Nat.le_refl _) _).alloc (by omega) _
        have h := HT2.out.on hbx
        have hl := HT2.out.loc.lt
        refine ⟨h.res, h.loc, ?_, ?_, h.low, hl, Nat.lt_succ_self _⟩
        · rw [hw3, ← HX.out]
          exact (RowN.setRow (f := fun _ => 0) (RowN.new rfl)).old _
        · have h2 := RowN.new (t := 58) (N := 300) (f := fun _ => 0) (w := ((w2.alloc (Obj.cells (ints 257 fun x => 0) 47)).setRow w2.heap.size (ints 257 X))) rfl
          rw [hsz] at h2
          rw [hw3]
          exact h2.congr fun i _ => by rw [m0_start]; rfl
      clear hw3 hn
      generalize w2.heap.size = g1 at *
      obtain ⟨g2, hg2⟩ : ∃ g2, g2 = g1 + 1 := ⟨_, rfl⟩
      rw [← hg2] at HE ⊢
      clear hg2 HT2 HT HX HF HFI HY
      go_loopw [10] (fun i wr => ∃ (n : Nat), n ≤ 257 ∧ i = .int .i64 n ∧ ESt w.heap.size g1 g2 L (m0 L n) (fun _ => 0) w wr) (fun i _ => 257 - (intOf i).toNat)
      case atStart => exact ⟨0, by omega, rfl, HE.out⟩
      case round =>
        obtain ⟨n, hn, rfl, he⟩ := hrel
        have HE1 := Lib.hid he
        clear he
        by_cases hlt : n < 257
        · have x0 := HE1.out.len.cell (i := n) (by omega)
          have hl := HLE.out n
          have hs := m0_step L n
          by_cases h0 : L n = 0
          · rw [if_pos h0] at hs
            have HS1 := Lib.hid hs
            rw [h0] at x0
            clear hs h0
            go_wp2
            go_roundw
            case rel => exact ⟨n + 1, by omega, by go_num, by rw [HS1.out]; exact HE1.out⟩
            case measure => simp [intOf]; omega
          · rw [if_neg h0] at hs
            have HS1 := Lib.hid hs
            have e0 : decide (0 < L n) = true := decide_eq_true (by omega)
            have x1 := HE1.out.num.cell (i := L n) (by omega)
            have x2 := HE1.out.num.free (L n)
            have hb := m0_bound L n (L n)
            have hLn : L n < 300 := by omega
            clear hs h0
            generalize hq : m0 L n (L n) = q at *
            generalize hp : L n = p at *
            have hw : wrap64 ((q : Int) + 1) = (q : Int) + 1 := wrap64_small _ (by omega) (by omega)
            have hw2 : IntKind.i64.wrap ((q : Int) + 1) = (q : Int) + 1 := (IntWalk.i64_left _).trans hw
            go_upto_region 17 with fail
            refine wp_region_last _ rfl (by kernel_rfl) (by kernel_rfl) (by kernel_rfl) ?_
            dsimp only [dull]
            repeat (go_big_quiet_step (fail))
            refine wpQuiet_nil ?_
            intro wq hwq
            obtain ⟨nq, rfl⟩ := hwq
            refine wp_store_int _ _ rfl rfl ⟨g2, p, none⟩ _ _ rfl rfl x1 x2 ?_
            go_wp2
            go_roundw
            case rel => exact ⟨n + 1, by omega, by go_num, by rw [HS1.out]; exact (HE1.out.on (below_drawn (Below.refl _ _) nq)).setM p (q + 1) (by omega)⟩
            case measure => simp [intOf]; omega
        · obtain rfl : n = 257 := by omega
          have HE2 := Lib.hid HE1.out
          obtain ⟨O, hO⟩ : ∃ O, O = outr 256 (m0 L 257) := ⟨_, rfl⟩
          have HO0 : Hid (O = outr 299 (m0 L 257)) := by
            unfold Hid
            rw [hO, show (299 : Nat) = 256 + 43 from rfl, outr_off (by omega) 43 fun i h1 _ => HK6.out.out i h1]
          rw [← hO] at HC
          clear hlt hO HE HE1
          go_wp2
          go_loopw [11] (fun i wr => ∃ (n : Nat) (m : Nat → Nat), 16 ≤ n ∧ n ≤ 299 ∧ i = .int .i64 n ∧ O = outr n m ∧ Kr m n T ∧ ESt w.heap.size g1 g2 L m (fun _ => 0) w wr) (fun i _ => (intOf i).toNat)
          case atStart => exact ⟨299, m0 L 257, by omega, by omega, rfl, HO0.out, HK.out, HE2.out⟩
          case round =>
            obtain ⟨n, m, hn1, hn2, rfl, ho, hk, hs⟩ := hrel
            have HO := Lib.hid ho
            have HK2 := Lib.hid hk
            have HS2 := Lib.hid hs
            clear ho hk hs HE2 HO0
            by_cases hlt : 16 < n
            · have e16 : decide ((16 : Int) < (n : Int)) = true := decide_eq_true (by omega)
              go_wp2
              go_loopw [12] (fun _ wr => ∃ (m' : Nat → Nat), innr m n = innr m' n ∧ Kr m' n T ∧ ESt w.heap.size g1 g2 L m' (fun _ => 0) w wr) (fun _ wr => cellN wr g2 n)
              case atStart => exact ⟨m, rfl, HK2.out, HS2.out⟩
              case round =>
                obtain ⟨m', hi, hk, hs⟩ := hrel
                have x0 := hs.num.cell (i := n) (by omega)
                have HI := Lib.hid hi
                have HK3 := Lib.hid hk
                have HS3 := Lib.hid hs
                clear hi hs
                by_cases h0 : m' n = 0
                · have HQ : Hid (outr n m = outr (n - 1) m') := by
                    unfold Hid
                    rw [outr_step hlt, HI.out, innr_done h0]
                  have HK4 : Hid (Kr m' (n - 1) T) := by
                    obtain ⟨q, rfl⟩ : ∃ q, n = q + 1 := ⟨n - 1, by omega⟩
                    exact hk.down h0
                  rw [h0] at x0
                  clear hk
                  go_wp2
                  go_roundw
                  case rel => exact ⟨n - 1, m', by omega, by omega, by go_num, HO.out.trans HQ.out, HK4.out, HS3.out⟩
                  case measure => simp [intOf]; omega
                · obtain ⟨hk2, hm2⟩ := hk.shc (by omega) (by omega) h0
                  have HK4 := Lib.hid hk2
                  have HT := Lib.hid (shc_top m' n (by omega))
                  have HI4 : Hid (innr m n = innr (shc m' n) n) := by
                    unfold Hid
                    rw [HI.out, innr_step (by omega) h0]
                  obtain ⟨J, hJ⟩ : ∃ J, J = great m' (n - 2) := ⟨_, rfl⟩
                  have hJ1 : 1 ≤ J := by rw [hJ]; exact hk.shorter (by omega) (by omega)
                  have hJ2 : J ≤ n - 2 := by rw [hJ]; exact great_le _ _
                  have hJ3 : m' J ≠ 0 := by rw [hJ]; exact great_ne m' (n - 2) (by omega)
                  have HZ := Lib.hid hk.zero
                  have HKB : Hid (∀ i, m' i ≤ 257) := fun i => kr_bound hk (by omega) i
                  have HJ := Lib.hid hJ
                  have HJ3 := Lib.hid hJ3
                  have e0 : decide (0 < m' n) = true := decide_eq_true (by omega)
                  clear hk h0 hk2 hJ hJ3 HI
                  go_wp2
                  go_loopw [12] (fun j wx => ∃ (p : Nat), J ≤ p ∧ p ≤ n - 2 ∧ j = .int .i64 p ∧ great m' p = J ∧ wx = wr) (fun j _ => (intOf j).toNat)
                  case atStart => exact ⟨n - 2, hJ2, by omega, by go_num, HJ.out.symm, rfl⟩
                  case round =>
                    obtain ⟨p, hp1, hp2, rfl, hp3, rfl⟩ := hrel
                    have HP := Lib.hid hp3
                    clear hp3
                    have y0 := HS3.out.num.cell (i := p) (by omega)
                    by_cases hz : m' p = 0
                    · have hpJ : p ≠ J := fun e => HJ3.out (e ▸ hz)
                      have HP2 := Lib.hid ((great_down hz (by omega)).symm.trans HP.out)
                      rw [hz] at y0
                      clear hz
                      go_wp2
                      go_roundw
                      case rel => exact ⟨p - 1, by omega, by omega, by go_num, HP2.out, by trivial⟩
                      case measure => simp [intOf]; omega
                    · have hpJ : p = J := by rw [← HP.out]; exact (great_here hz (by omega)).symm
                      subst hpJ
                      have hz' : ((m' p : Int) == 0) = false := by rw [beq_eq_false_iff_ne]; omega
                      have f0 := HS3.out.num.free n
                      obtain ⟨m1, e1⟩ : ∃ m1, m1 = upd m' n (m' n - 2) := ⟨_, rfl⟩
                      have hS1 := HS3.out.setM n (m' n - 2) (z := (m' n : Int) - 2) (by omega)
                      rw [← e1] at hS1
                      have hb1 := HKB.out n
                      have HE1 := Lib.hid e1
                      have HS4 := Lib.hid hS1
                      clear e1 hS1
                      generalize hmn : m' n = mn at *
                      go_upto_region 26 with fail
                      obtain ⟨w5, hw5⟩ : ∃ w5, w5 = wr.setCell { block := g2, off := n } (Value.int IntKind.i64 ((mn : Int) - 2)) := ⟨_, rfl⟩
                      rw [← hw5] at HS4 ⊢
                      have hmm1 : m1 (n - 1) = m' (n - 1) := by rw [HE1.out]; exact upd_ne _ _ (by omega)
                      have hb2 := HKB.out (n - 1)
                      rw [← hmm1] at hb2
                      have y1 := HS4.out.num.cell (i := n - 1) (by omega)
                      have f1 := HS4.out.num.free (n - 1)
                      obtain ⟨m2, e2⟩ : ∃ m2, m2 = upd m1 (n - 1) (m1 (n - 1) + 1) := ⟨_, rfl⟩
                      have hS2 := HS4.out.setM (n - 1) (m1 (n - 1) + 1) (z := (m1 (n - 1) : Int) + 1) (by omega)
                      rw [← e2] at hS2
                      have HE2 := Lib.hid e2
                      have HS5 := Lib.hid hS2
                      have hni : ((n : Int) - 1).toNat = n - 1 := by omega
                      clear hw5 e2 hS2 hmm1 x0 y0 f0 hz hz'
                      generalize hmn1 : m1 (n - 1) = mn1 at *
                      go_upto_region 27 with fail
                      obtain ⟨w6, hw6⟩ : ∃ w6, w6 = w5.setCell { block := g2, off := n - 1 } (Value.int IntKind.i64 ((mn1 : Int) + 1)) := ⟨_, rfl⟩
                      rw [← hw6] at HS5 ⊢
                      have hb3 : m2 (p + 1) ≤ 258 := by
                        rw [HE2.out]
                        by_cases q : p + 1 = n - 1
                        · rw [q, upd_same]; omega
                        · rw [upd_ne _ _ q, HE1.out, upd_ne _ _ (by omega)]
                          have := HKB.out (p + 1)
                          omega
                      have y2 := HS5.out.num.cell (i := p + 1) (by omega)
                      have f2 := HS5.out.num.free (p + 1)
                      obtain ⟨m3, e3⟩ : ∃ m3, m3 = upd m2 (p + 1) (m2 (p + 1) + 2) := ⟨_, rfl⟩
                      have hS3 := HS5.out.setM (p + 1) (m2 (p + 1) + 2) (z := (m2 (p + 1) : Int) + 2) (by omega)
                      rw [← e3] at hS3
                      have HE3 := Lib.hid e3
                      have HS6 := Lib.hid hS3
                      have hpi : ((p : Int) + 1).toNat = p + 1 := by omega
                      clear hw6 e3 hS3 y1 f1
                      generalize hmn2 : m2 (p + 1) = mn2 at *
                      go_upto_region 28 with fail
                      obtain ⟨w7, hw7⟩ : ∃ w7, w7 = w6.setCell { block := g2, off := p + 1 } (Value.int IntKind.i64 ((mn2 : Int) + 2)) := ⟨_, rfl⟩
                      rw [← hw7] at HS6 ⊢
                      have hb4 : m3 p ≠ 0 ∧ m3 p ≤ 257 := by
                        rw [HE3.out, upd_ne _ _ (by omega), HE2.out, upd_ne _ _ (by omega), HE1.out, upd_ne _ _ (by omega)]
                        exact ⟨HJ3.out, HKB.out p⟩
                      have y3 := HS6.out.num.cell (i := p) (by omega)
                      have f3 := HS6.out.num.free p
                      have hS4 := HS6.out.setM p (m3 p - 1) (z := (m3 p : Int) - 1) (by omega)
                      have e4 := shc_doc m' n p HJ.out (by omega) hJ2 m1 m2 m3 _ (by rw [hmn]; exact HE1.out) (by rw [hmn1]; exact HE2.out) (by rw [hmn2]; exact HE3.out) rfl
                      rw [e4] at hS4
                      have HS7 := Lib.hid hS4
                      clear hw7 e4 hS4 y2 f2
                      generalize hmn3 : m3 p = mn3 at *
                      go_wp2
                      go_roundw
                      case rel => exact ⟨shc m' n, HI4.out, HK4.out, HS7.out⟩
                      case measure =>
                        rw [HS7.out.num.cellN (by omega), HS3.out.num.cellN (by omega), HT.out]
                        omega
            · obtain rfl : n = 16 := by omega
              have hk := HK2.out
              obtain ⟨J, hJ⟩ : ∃ J, J = great m 16 := ⟨_, rfl⟩
              have hJ0 : J ≤ 16 := by rw [hJ]; exact great_le m 16
              have hJ3 : m J ≠ 0 := by rw [hJ]; exact great_last hk
              have hJ1 : J ≠ 0 := fun e => hJ3 (by rw [e]; exact hk.zero)
              have hb : m J ≤ 257 := kr_bound hk (by omega) J
              have HCm : Hid (∀ i, C i = upd m J (m J - 1) (i + 1)) := by
                intro i
                rw [HC.out, HO.out, outr_done (by omega)]
                unfold fin
                rw [← hJ]
              have HC8 : Hid (∀ i, C i < 256) := by
                intro i
                rw [HCm.out, hJ]
                exact (fin_right hk).2.1 i
              have HJ := Lib.hid hJ
              have HJ3 := Lib.hid hJ3
              have HZ := Lib.hid hk.zero
              clear hk hJ hlt
              rw [show ((16 : Nat) : Int) = 16 from rfl]
              go_wp2
              go_loopw [13] (fun j wx => ∃ (p : Nat), J ≤ p ∧ p ≤ 16 ∧ j = .int .i64 p ∧ great m p = J ∧ wx = wr) (fun j _ => (intOf j).toNat)
              case atStart => exact ⟨16, hJ0, by omega, by go_num, HJ.out.symm, rfl⟩
              case round =>
                obtain ⟨p, hp1, hp2, rfl, hp3, rfl⟩ := hrel
                have HP := Lib.hid hp3
                clear hp3
                have y0 := HS2.out.num.cell (i := p) (by omega)
                by_cases hz : m p = 0
                · have hpJ : p ≠ J := fun e => HJ3.out (e ▸ hz)
                  have HP2 := Lib.hid ((great_down hz (by omega)).symm.trans HP.out)
                  rw [hz] at y0
                  clear hz
                  go_wp2
                  go_roundw
                  case rel => exact ⟨p - 1, by omega, by omega, by go_num, HP2.out, by trivial⟩
                  case measure => simp [intOf]; omega
                · have hpJ : p = J := by rw [← HP.out]; exact (great_here hz (by omega)).symm
                  subst hpJ
                  have hz' : ((m p : Int) == 0) = false := by rw [beq_eq_false_iff_ne]; omega
                  have f0 := HS2.out.num.free p
                  have HS3 := Lib.hid (HS2.out.setM p (m p - 1) (z := (m p : Int) - 1) (by omega))
                  generalize hmp : m p = mp at *
                  go_upto_region 33 with fail
                  obtain ⟨w4, hw4⟩ : ∃ w4, w4 = wr.setCell { block := g2, off := p } (Value.int IntKind.i64 ((mp : Int) - 1)) := ⟨_, rfl⟩
                  rw [← hw4] at HS3 ⊢
                  clear hw4 y0 f0 hz hz' HS2
                  generalize hM2 : upd m p (mp - 1) = M2 at *
                  clear hM2
                  go_wp2
                  go_loopw [14, 15, 16] (fun s l _ wx => ∃ (q : Nat), q ≤ 299 ∧ l = .int .i64 (q + 1 : Nat) ∧ s = .string ⟨(lall L q).toArray⟩ ∧ ESt w.heap.size g1 g2 L M2 (fun _ => 0) w wx) (fun _ l _ _ => 300 - (intOf l).toNat)
                  case atStart => exact ⟨0, by omega, rfl, rfl, HS3.out⟩
                  case round =>
                    obtain ⟨q, hq, rfl, rfl, hes⟩ := hrel
                    have HS4 := Lib.hid hes
                    clear hes
                    by_cases hq9 : q < 299
                    · have e9 : decide (((q + 1 : Nat) : Int) < 300) = true := decide_eq_true (by omega)
                      go_wp2
                      go_loopw [14, 16] (fun s i wx => ∃ (k : Nat), k ≤ 256 ∧ i = .int .i64 k ∧ s = .string ⟨(lall L q ++ lrow L (q + 1) k).toArray⟩ ∧ ESt w.heap.size g1 g2 L M2 (fun _ => 0) w wx) (fun _ i _ => 256 - (intOf i).toNat)
                      case atStart => exact ⟨0, by omega, rfl, by rw [show lrow L (q + 1) 0 = [] from rfl, List.append_nil], HS4.out⟩
                      case round =>
                        obtain ⟨k, hk, rfl, rfl, hes⟩ := hrel
                        have HS5 := Lib.hid hes
                        clear hes
                        by_cases hk2 : k < 256
                        · have x0 := HS5.out.len.cell (i := k) (by omega)
                          have h1 := lall_length L q
                          have h2 := lrow_length L (q + 1) k
                          have hlen : (lall L q ++ lrow L (q + 1) k).length ≤ 80000 := by rw [List.length_append]; omega
                          have hn1 : ¬ 9223372036854775807 < (⟨(lall L q ++ lrow L (q + 1) k).toArray⟩ : ByteArray).size + (⟨[k.toUInt8].toArray⟩ : ByteArray).size := by
                            show ¬ 9223372036854775807 < (lall L q ++ lrow L (q + 1) k).length + 1
                            omega
                          by_cases hLk : L k = q + 1
                          · have HS6 := Lib.hid (lrow_take (L := L) (n := q + 1) (k := k) hLk)
                            have hcv := conv_one wr (k : Int) k.toUInt8 (by rw [toU_toNat k hk2])
                            have HS7 := Lib.hid (HS5.out.on ((Below.refl _ _).alloc (Nat.le_refl _) (.cells #[.int .u8 (k : Int)] 5)))
                            rw [hLk] at x0
                            clear h1 h2 hLk
                            generalize hll : lall L q ++ lrow L (q + 1) k = ll at *
                            have HLL := Lib.hid hll
                            clear hll
                            go_wp2
                            go_roundw
                            case rel =>
                              refine ⟨k + 1, by omega, by go_num, ?_, HS7.out⟩
                              rw [HS6.out, ← List.append_assoc, HLL.out]
                              show Value.string ((⟨ll.toArray⟩ : ByteArray) ++ ⟨[k.toUInt8].toArray⟩) = _
                              rw [bytes_app]
                            case measure => simp [intOf]; omega
                          · have HS6 := Lib.hid (lrow_skip (L := L) (n := q + 1) (k := k) hLk)
                            have e5 : ((L k : Int) == ((q + 1 : Nat) : Int)) = false := by rw [beq_eq_false_iff_ne]; omega
                            have e6 : ((L k : Int) == (q : Int) + 1) = false := by rw [beq_eq_false_iff_ne]; omega
                            have e7 : (L k == q + 1) = false := by rw [beq_eq_false_iff_ne]; exact hLk
                            clear h1 h2 hLk hn1
                            go_wp2
                            go_roundw
                            case rel => exact ⟨k + 1, by omega, by go_num, by rw [HS6.out], HS5.out⟩
                            case measure => simp [intOf]; omega
                        · obtain rfl : k = 256 := by omega
                          have HS6 : Hid (lall L q ++ lrow L (q + 1) 256 = lall L (q + 1)) := rfl
                          clear hk2
                          go_wp2
                          go_roundw
                          case rel => exact ⟨q + 1, by omega, by go_num, by rw [← HS6.out], HS5.out⟩
                          case measure => simp [intOf]; omega
                    · obtain rfl : q = 299 := by omega
                      have HSS : Hid (S = ⟨(lall L 299).toArray⟩) := by
                        unfold Hid
                        rw [lall_syms L HLE.out]
                        exact HS.out
                      rw [← HSS.out]
                      have e9 : decide (((299 + 1 : Nat) : Int) < 300) = false := by decide
                      clear hq9 hq
                      go_wp2
                      go_loopw [17] (fun i wr => ∃ n : Nat, n ≤ 16 ∧ i = .int .i64 n ∧ ESt w.heap.size g1 g2 L M2 (fun i => if i < n then C i else 0) w wr) (fun i _ => 16 - (intOf i).toNat)
                      case atStart => exact ⟨0, by omega, rfl, by
                        have h := HS4.out
                        exact ⟨h.res, h.loc.congr fun i _ => (if_neg (by omega)).symm, h.len, h.num, h.low, h.a, h.b⟩⟩
                      case round =>
                        obtain ⟨n, hn, rfl, hes⟩ := hrel
                        have HS6 := Lib.hid hes
                        clear hes HS4
                        by_cases hlt2 : n < 16
                        · have x0 := HS6.out.num.cell (i := n + 1) (by omega)
                          rw [← HCm.out n] at x0
                          have x1 := HS6.out.loc.cell (i := n) hlt2
                          have x2 := HS6.out.loc.free n
                          have hc8 := HC8.out n
                          have HC9 : Hid (∀ i, i < 16 → upd (fun i => if i < n then C i else 0) n (C n) i = if i < n + 1 then C i else 0) := by
                            intro i _
                            by_cases e : i = n
                            · subst e; rw [upd_same, if_pos (by omega)]
                            · rw [upd_ne _ _ e]
                              by_cases e2 : i < n
                              · rw [if_pos e2, if_pos (by omega)]
                              · rw [if_neg e2, if_neg (by omega)]
                          have HS7 := Lib.hid (HS6.out.setC n (C n) rfl)
                          generalize (if n < n then C n else 0) = y0 at x1
                          generalize hcn : C n = cv at *
                          go_wp2
                          go_roundw
                          case rel => exact ⟨n + 1, by omega, by go_num, by
                            have h := HS7.out
                            exact ⟨h.res, h.loc.congr HC9.out, h.len, h.num, h.low, h.a, h.b⟩⟩
                          case measure => simp [intOf]; omega
                        · obtain rfl : n = 16 := by omega
                          have HC10 : Hid (RowC (w.heap.size + 1 + 1) C wr) := HS6.out.loc.congr fun i hi => if_pos hi
                          clear hlt2
                          go_wp2_with (first
                            | refine wpList_load_row rfl 23 _ rfl (w.heap.size + 1 + 1) rfl 23 _ (0, 0) _ HC10.out Try.underlying23 rfl (size22 _) ?_
                            | refine wpList_store_row rfl 23 _ _ rfl (w.heap.size + 1) _ rfl rfl 23 _ HS6.out.res (size22 _) ((cnt_size _).trans (cnt_size _).symm) (cnt_one _) ?_)
                          refine bodyPost_ret_by (results_row3 rfl _ _ (w.heap.size + 1) _ _ _ rfl rfl rfl (load_cnt _ _ _ (RowC.setRow (c' := C) HS6.out.res))) rfl ⟨rfl, below_setRow HS6.out.low (by omega) _⟩
end Go.Proofs.Ytlfnjdgfllhepaa
