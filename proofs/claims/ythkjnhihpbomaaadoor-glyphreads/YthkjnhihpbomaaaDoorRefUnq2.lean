/- A walk of the document's own answer: a quoted text, read. -/
import Derived.Test.YthkjnhihpbomaaaDoorRefUnq1
import Derived.Test.YthkjnhihpbomaaaDoorUnq4
import Derived.Deep.DeepCutAuto
import Derived.Deep.CutBlock
namespace Go.Proofs.YthkjnhihpbomaaaDoor
open Go.RowKit

set_option maxRecDepth 1000000 in
set_option maxHeartbeats 100000000 in
theorem rUnquote_any (s : ByteArray) (hs : s.size ≤ 1000000) (w : World) :
    Calls Tryd.prog 28 #[.string s] w fun e w' => e = .returned (.tuple #[.string ⟨(unq s).1.toArray⟩, .int .i64 ((unq s).2.1 : Nat), .int .i64 ((unq s).2.2 : Nat)]) ∧ Below w.heap.size w w' := by
  by_cases h1 : ¬ 0 < s.size
  · have hx : unq s = ([], 0, 2) := by rw [unq, if_pos h1]
    have E := fault_short s w
    rw [hx]
    have h0 : ((s.size : Nat) : Int) = 0 := by omega
    rw [h0] at E
    have HE := Lib.hid E
    have h0' : ((s.size : Int) == 0) = true := beq_iff_eq.2 h0
    clear hx h1 E h0
    go_enter Tryd.func28, Tryd.ntmps28
    go_wp2_with (go_at_call 43; refine HE.out.mono ?_; rintro e w' ⟨rfl, rfl⟩)
    go_ret3
    exact ⟨rfl, Below.refl _ _⟩
  have h1 : 0 < s.size := by omega
  have h1' : ((s.size : Int) == 0) = false := beq_eq_false_iff_ne.2 (by omega)
  have i00 := idx_byt s 0 h1 0 rfl
  by_cases h2 : byt s 0 ≠ 34
  · have hx : unq s = ([], 0, 16) := by rw [unq, if_neg (by omega), if_pos h2]
    rw [hx]
    have HE := Lib.hid (fault_text s 0 (by omega) w)
    have h2' : ((byt s 0 : Int) != 34) = true := by rw [bne_iff_ne]; omega
    generalize byt s 0 = c at i00 h2'
    clear hx
    go_enter Tryd.func28, Tryd.ntmps28
    go_wp2_with (go_at_call 43; refine HE.out.mono ?_; rintro e w' ⟨rfl, rfl⟩)
    go_ret3
    exact ⟨rfl, Below.refl _ _⟩
  have h2 : byt s 0 = 34 := by omega
  have hu : unq s = unqFrom s s.size 1 [] := by rw [unq, if_neg (by omega), if_neg (by omega)]
  rw [h2] at i00
  generalize unq s = U at hu
  have Hu := Lib.hid hu
  clear hu h2
  go_enter Tryd.func28, Tryd.ntmps28
  go_wp2
  go_loopw [5, 6] (fun o i wr => ∃ (f p : Nat) (acc : List UInt8), o = .string ⟨acc.toArray⟩ ∧ i = .int .i64 p ∧ Below w.heap.size w wr ∧ unqFrom s f p acc = U ∧ s.size ≤ p + f ∧ p ≤ s.size ∧ acc.length ≤ 4 * p ∧ 0 < p) (fun _ i _ => s.size - (intOf i).toNat)
  case atStart => exact ⟨s.size, 1, [], rfl, rfl, Below.refl _ _, Hu.out.symm, by omega, by omega, by simp, by omega⟩
  case round =>
    obtain ⟨f, p, acc, rfl, rfl, hK, hU, hf, hp, hal, hp0⟩ := hrel
    have HK := Lib.hid hK
    have HU := Lib.hid hU
    have hBr := hK.size
    have FShort := Lib.hid (fault_short s wr)
    clear hK hU i00
    by_cases hp1 : p < s.size
    · obtain ⟨f, rfl⟩ : ∃ f', f = f' + 1 := ⟨f - 1, by omega⟩
      have hst := unqFrom_on s f p acc hp1
      rw [HU.out] at hst
      have i0 := idx_byt s p hp1 (p : Int) rfl
      have hb := byt_lt s p
      have h1s := one_str s p hp1
      rw [← Utf8W.get!_of_lt s p hp1] at h1s
      have H1s := Lib.hid h1s
      have FT := Lib.hid (fault_text s p (by omega) wr)
      clear h1s
      generalize s.get! p = g at H1s hst
      generalize byt s p = b at i0 hb hst
      by_cases c1 : b = 34
      · subst c1
        rw [if_pos rfl] at hst
        have Hs := Lib.hid hst
        clear hst
        go_wp2
        go_ret3
        refine ⟨?_, HK.out⟩
        rw [Hs.out]
        rfl
      rw [if_neg c1] at hst
      have e1 : ((b : Int) != 34) = true := by rw [bne_iff_ne]; omega
      by_cases c2 : b = 92
      · subst c2
        rw [if_pos rfl] at hst
        clear e1 c1 hb FT H1s
        by_cases hp2 : ¬ p + 1 < s.size
        · have hx : esc s (p + 1) = ([], p + 1, 2) := by rw [esc, if_pos hp2]
          rw [hx] at hst
          have Hs : Hid (U = ([], s.size, 2)) := by
            rw [hst]
            show ([], p + 1, 2) = _
            rw [show s.size = p + 1 by omega]
          have hp2' : (s.size : Int) ≤ (p : Int) + 1 := by omega
          clear hst hx
          go_wp2_with (go_at_call 43; refine FShort.out.mono ?_; rintro e w' ⟨rfl, rfl⟩)
          go_ret3
          refine ⟨?_, HK.out⟩
          rw [Hs.out]
          rfl
        have hp2 : p + 1 < s.size := by omega
        have hp2' : (p : Int) + 1 < (s.size : Int) := by omega
        have i1 := idx_byt s (p + 1) hp2 ((p : Int) + 1) (by omega)
        have hx : esc s (p + 1) = if byt s (p + 1) = 34 ∨ byt s (p + 1) = 92 then ([s.get! (p + 1)], p + 1 + 1, 0) else if byt s (p + 1) = 110 then ([10], p + 1 + 1, 0) else if byt s (p + 1) = 120 then escX s (p + 1 + 1) else if byt s (p + 1) = 117 then escU s (p + 1 + 1) else ([], p + 1, 16) := by
          rw [esc, if_neg (by omega)]
        rw [hx] at hst
        have h1s := one_str s (p + 1) hp2
        rw [← Utf8W.get!_of_lt s (p + 1) hp2] at h1s
        have H1s := Lib.hid h1s
        have hb := byt_lt s (p + 1)
        clear hx h1s
        generalize s.get! (p + 1) = g at H1s hst
        generalize byt s (p + 1) = b at i1 hb hst
        by_cases c1 : b = 34
        · subst c1
          rw [if_pos (Or.inl rfl), if_pos rfl] at hst
          have Hs := Lib.hid hst
          clear hst
          go_wp2
          go_roundw
          case rel => exact ⟨f, p + 1 + 1, acc ++ [g], by rw [H1s.out, app_str], by go_num, HK.out, Hs.out.symm, by omega, by omega, by simp; omega, by omega⟩
          case measure => simp [intOf]; omega
        by_cases c2 : b = 92
        · subst c2
          rw [if_pos (Or.inr rfl), if_pos rfl] at hst
          have Hs := Lib.hid hst
          clear hst
          go_wp2
          go_roundw
          case rel => exact ⟨f, p + 1 + 1, acc ++ [g], by rw [H1s.out, app_str], by go_num, HK.out, Hs.out.symm, by omega, by omega, by simp; omega, by omega⟩
          case measure => simp [intOf]; omega
        rw [if_neg (show ¬ (b = 34 ∨ b = 92) by omega)] at hst
        clear H1s
        by_cases c3 : b = 110
        · subst c3
          rw [if_pos rfl, if_pos rfl] at hst
          have Hs := Lib.hid hst
          clear hst
          go_wp2
          go_roundw
          case rel => exact ⟨f, p + 1 + 1, acc ++ [10], by simp only [app_str], by go_num, HK.out, Hs.out.symm, by omega, by omega, by simp; omega, by omega⟩
          case measure => simp [intOf]; omega
        rw [if_neg c3] at hst
        by_cases c4 : b = 120
        · subst c4
          rw [if_pos rfl] at hst
          as_aux_lemma =>
            clear c1 c2 c3 hb
            by_cases hx1 : ¬ p + 2 < s.size
            · have hx : escX s (p + 1 + 1) = ([], s.size, 2) := by
                rw [escX, if_pos (by omega)]
                rw [show s.size = p + 1 + 1 by omega]
              rw [hx, if_neg (show ¬ (2 = 0) by omega)] at hst
              have Hs := Lib.hid hst
              have hx1' : (s.size : Int) ≤ (p : Int) + 1 + 1 := by omega
              have hx1'' : (s.size : Int) ≤ (p : Int) + 2 := by omega
              clear hst hx
              go_wp2
              refine wp_loop_rounds 3 ?_
              rw [rounds_succ]
              go_wp2_with (go_at_call 43; refine (fault_short_z s _ (by omega) _).mono ?_; rintro e w' ⟨rfl, rfl⟩)
              go_ret3
              refine ⟨?_, HK.out⟩
              rw [Hs.out]
              rfl
            have hx1 : p + 2 < s.size := by omega
            have i2 := idx_byt s (p + 2) hx1 ((p : Int) + 1 + 1) (by omega)
            have i2' := idx_byt s (p + 2) hx1 ((p : Int) + 2) (by omega)
            have b2 := byt_lt s (p + 2)
            have v2 := digV_lt (byt s (p + 2))
            have d2 := fun W => rdigit_any (byt s (p + 2)) b2 W
            have hxx : escX s (p + 1 + 1) = if digOk (byt s (p + 2)) = false then ([], p + 2, 16) else if ¬ p + 2 + 1 < s.size then ([], p + 2 + 1, 2) else if digOk (byt s (p + 3)) = false then ([], p + 3, 16) else ([(digV (byt s (p + 2)) * 16 + digV (byt s (p + 3))).toUInt8], p + 4, 0) := by
              rw [escX, if_neg (by omega)]
            generalize escX s (p + 1 + 1) = E at hxx hst
            generalize byt s (p + 2) = x2 at i2 i2' b2 v2 d2 hxx
            cases k2 : digOk x2
            · rw [if_pos k2] at hxx
              rw [hxx, if_neg (show ¬ (16 = 0) by omega)] at hst
              rw [rdig_no x2 k2] at d2
              have D2 := Lib.hid d2
              have Hs := Lib.hid hst
              have hx1' : ¬ (s.size : Int) ≤ (p : Int) + 1 + 1 := by omega
              clear hst d2 k2 hxx
              go_wp2
              refine wp_loop_rounds 3 ?_
              rw [rounds_succ]
              go_wp2_with (first
                | (go_at_call 44; refine (D2.out _).mono ?_; rintro e w' ⟨rfl, rfl⟩)
                | (go_at_call 43; refine (fault_text_z s (p + 2) hx1 _ (by omega) _).mono ?_; rintro e w' ⟨rfl, rfl⟩))
              go_ret3
              refine ⟨?_, HK.out⟩
              rw [Hs.out]
              rfl
            rw [rdig_ok x2 k2] at d2
            rw [if_neg (show ¬ digOk x2 = false by rw [k2]; decide)] at hxx
            generalize digV x2 = y2 at v2 d2 hxx
            have D2 := Lib.hid d2
            clear d2 k2
            by_cases hx2 : ¬ p + 2 + 1 < s.size
            · rw [if_pos hx2] at hxx
              rw [hxx, if_neg (show ¬ (2 = 0) by omega)] at hst
              have Hs : Hid (U = ([], s.size, 2)) := by
                rw [hst]
                show ([], p + 2 + 1, 2) = _
                rw [show s.size = p + 2 + 1 by omega]
              have hx2' : (s.size : Int) ≤ (p : Int) + 1 + 2 := by omega
              have hx2'' : (s.size : Int) ≤ (p : Int) + 3 := by omega
              clear hst hxx
              go_wp2
              refine wp_loop_rounds 3 ?_
              rw [rounds_succ]
              go_wp2_with (go_at_call 44; refine (D2.out _).mono ?_; rintro e w' ⟨rfl, rfl⟩)
              rw [rounds_succ]
              go_wp2_with (go_at_call 43; refine (fault_short_z s _ (by omega) _).mono ?_; rintro e w' ⟨rfl, rfl⟩)
              go_ret3
              refine ⟨?_, HK.out⟩
              rw [Hs.out]
              rfl
            have hx2 : p + 3 < s.size := by omega
            rw [if_neg (show ¬ ¬ p + 2 + 1 < s.size by omega)] at hxx
            have i3 := idx_byt s (p + 3) hx2 ((p : Int) + 1 + 2) (by omega)
            have i3' := idx_byt s (p + 3) hx2 ((p : Int) + 3) (by omega)
            have b3 := byt_lt s (p + 3)
            have v3 := digV_lt (byt s (p + 3))
            have d3 := fun W => rdigit_any (byt s (p + 3)) b3 W
            generalize byt s (p + 3) = x3 at i3 i3' b3 v3 d3 hxx
            cases k3 : digOk x3
            · rw [if_pos k3] at hxx
              rw [hxx, if_neg (show ¬ (16 = 0) by omega)] at hst
              rw [rdig_no x3 k3] at d3
              have D3 := Lib.hid d3
              have Hs := Lib.hid hst
              clear hst d3 k3 hxx
              go_wp2
              refine wp_loop_rounds 3 ?_
              rw [rounds_succ]
              go_wp2_with (go_at_call 44; refine (D2.out _).mono ?_; rintro e w' ⟨rfl, rfl⟩)
              rw [rounds_succ]
              go_wp2_with (first
                | (go_at_call 44; refine (D3.out _).mono ?_; rintro e w' ⟨rfl, rfl⟩)
                | (go_at_call 43; refine (fault_text_z s (p + 3) hx2 _ (by omega) _).mono ?_; rintro e w' ⟨rfl, rfl⟩))
              go_ret3
              refine ⟨?_, HK.out⟩
              rw [Hs.out]
              rfl
            · rw [if_neg (show ¬ digOk x3 = false by rw [k3]; decide)] at hxx
              rw [hxx, if_pos rfl] at hst
              rw [rdig_ok x3 k3] at d3
              generalize digV x3 = y3 at v3 d3 hst
              clear hxx
              have D3 := Lib.hid d3
              have hc : [Value.int .u8 ((y2 : Int) * 16 + (y3 : Int))] = Lib.byteCells [(y2 * 16 + y3).toUInt8] := by
                simp [Lib.byteCells]; omega
              generalize (y2 * 16 + y3).toUInt8 = yy at hc hst
              have hcv := conv_new wr [.int .u8 ((y2 : Int) * 16 + (y3 : Int))] [yy] hc 1 rfl
              have Hs := Lib.hid hst
              clear hst d3 k3 hc
              go_wp2
              refine wp_loop_rounds 3 ?_
              rw [rounds_succ]
              go_wp2_with (go_at_call 44; refine (D2.out _).mono ?_; rintro e w' ⟨rfl, rfl⟩)
              rw [rounds_succ]
              go_wp2_with (go_at_call 44; refine (D3.out _).mono ?_; rintro e w' ⟨rfl, rfl⟩)
              rw [rounds_succ]
              go_wp2
              go_roundw
              case rel => exact ⟨f, p + 4, acc ++ [yy], by simp only [app_str], by go_num, HK.out.alloc HK.out.size _, Hs.out.symm, by omega, by omega, by simp; omega, by omega⟩
              case measure => simp [intOf]; omega
        rw [if_neg c4] at hst
        by_cases c5 : b = 117
        · subst c5
          rw [if_pos rfl] at hst
          as_aux_lemma =>
            clear c1 c2 c3 c4 hb
            by_cases hu1 : ¬ p + 2 < s.size
            · have hx : escU s (p + 1 + 1) = ([], s.size, 2) := by
                rw [escU, if_pos (by omega)]
                rw [show s.size = p + 1 + 1 by omega]
              rw [hx, if_neg (show ¬ (2 = 0) by omega)] at hst
              have Hs := Lib.hid hst
              have hu1' : (s.size : Int) ≤ (p : Int) + 1 + 1 := by omega
              have hu1'' : (s.size : Int) ≤ (p : Int) + 2 := by omega
              clear hst hx
              go_wp2_with (go_at_call 43; refine (fault_short_z s _ (by omega) _).mono ?_; rintro e w' ⟨rfl, rfl⟩)
              go_ret3
              refine ⟨?_, HK.out⟩
              rw [Hs.out]
              rfl
            have hu1 : p + 2 < s.size := by omega
            have i2 := idx_byt s (p + 2) hu1 ((p : Int) + 1 + 1) (by omega)
            have i2' := idx_byt s (p + 2) hu1 ((p : Int) + 2) (by omega)
            have hu1' : (p : Int) + 1 + 1 < (s.size : Int) := by omega
            have hxx : escU s (p + 1 + 1) = if byt s (p + 2) ≠ 123 then ([], p + 2, 16) else if ¬ (num s 6 (p + 3) 0).2 < s.size then ([], (num s 6 (p + 3) 0).2, 2)
                else if byt s (num s 6 (p + 3) 0).2 ≠ 125 then ([], (num s 6 (p + 3) 0).2, 16)
                else if (num s 6 (p + 3) 0).2 = p + 3 ∨ 1114111 < (num s 6 (p + 3) 0).1 ∨ (55296 ≤ (num s 6 (p + 3) 0).1 ∧ (num s 6 (p + 3) 0).1 ≤ 57343) then ([], (num s 6 (p + 3) 0).2, 16)
                else (Lib.encodeRune ((num s 6 (p + 3) 0).1 : Nat), (num s 6 (p + 3) 0).2 + 1, 0) := by
              rw [escU, if_neg (by omega)]
            generalize escU s (p + 1 + 1) = E at hxx hst
            by_cases hu2 : byt s (p + 2) ≠ 123
            · rw [if_pos hu2] at hxx
              rw [hxx, if_neg (show ¬ (16 = 0) by omega)] at hst
              have Hs := Lib.hid hst
              have hu2' : ((byt s (p + 2) : Int) != 123) = true := by rw [bne_iff_ne]; omega
              clear hst hxx hu2
              generalize byt s (p + 2) = x2 at i2 i2' hu2'
              go_wp2_with (go_at_call 43; refine (fault_text_z s (p + 2) hu1 _ (by omega) _).mono ?_; rintro e w' ⟨rfl, rfl⟩)
              go_ret3
              refine ⟨?_, HK.out⟩
              rw [Hs.out]
              rfl
            have hu2 : byt s (p + 2) = 123 := by omega
            rw [if_neg (show ¬ byt s (p + 2) ≠ 123 by omega)] at hxx
            rw [hu2] at i2 i2'
            have hpl := num_place s 6 (p + 3) 0 (by omega)
            have hnl := num_lt s 6 (p + 3) 0
            clear hu2
            go_upto_block 5 with fail
            go_cut [6, 10] (fun i m wc' => ∃ q n : Nat, i = .int .i64 q ∧ m = .int .i64 n ∧ wc' = wr ∧ num s 6 (p + 3) 0 = (n, q))
            case first =>
              as_aux_lemma =>
                go_wp2_with fail
                go_loopw [6, 10] (fun i m wq => ∃ (f' q n : Nat), i = .int .i64 q ∧ m = .int .i64 n ∧ wq = wr ∧ q + f' = p + 3 + 6 ∧ p + 3 ≤ q ∧ q ≤ s.size ∧ n < 16 ^ (6 - f') ∧ f' ≤ 6 ∧ ((num s f' q n = num s 6 (p + 3) 0 ∧ (0 < n ∨ q = p + 3)) ∨ (n = 0 ∧ q = p + 4 ∧ num s 6 (p + 3) 0 = (0, q)))) (fun i _ _ => p + 9 - (intOf i).toNat)
                case atStart => exact ⟨6, p + 3, 0, by go_num, rfl, by first | rfl | trivial, by omega, by omega, by omega, by simp, by omega, Or.inl ⟨rfl, Or.inr rfl⟩⟩
                case round =>
                  obtain ⟨f', q, n, rfl, rfl, hwq, hqf, hpq, hqs, hn16, hf6, hR⟩ := hrel
                  subst hwq
                  have Hn := Lib.hid hn16
                  have hn24 : n < 16777216 := by
                    have : 16 ^ (6 - f') ≤ 16 ^ 6 := Nat.pow_le_pow_right (by omega) (by omega)
                    omega
                  clear hn16 hpl hnl i2 i2' i1 i0
                  by_cases hq0 : ¬ q < s.size
                  · have HN : Hid (num s 6 (p + 3) 0 = (n, q)) := by
                      show num s 6 (p + 3) 0 = (n, q)
                      rcases hR with ⟨h, _⟩ | ⟨rfl, _, h⟩
                      · rw [← h]
                        cases f' with
                        | zero => rfl
                        | succ f' => rw [num, if_neg (by omega)]
                      · exact h
                    have q1 : ¬ ((q : Int) < (s.size : Int)) := by omega
                    have q3 : decide ((q : Int) < (s.size : Int)) = false := decide_eq_false q1
                    clear hR
                    go_wp2
                    go_meet
                    case rel => exact ⟨q, n, rfl, rfl, by first | rfl | trivial, HN.out⟩
                  have hq1 : q < s.size := by omega
                  have q1' : (q : Int) < (s.size : Int) := by omega
                  have iq := idx_byt s q hq1 (q : Int) rfl
                  rcases hR with ⟨hR, hnz⟩ | ⟨rfl, hqp, hN⟩
                  · by_cases hf0 : f' = 0
                    · subst hf0
                      have HN : Hid (num s 6 (p + 3) 0 = (n, q)) := by
                        show num s 6 (p + 3) 0 = (n, q)
                        rw [← hR]; rfl
                      have q2a : decide ((q : Int) < (p : Int) + 9) = false := decide_eq_false (by omega)
                      have q2b : decide ((q : Int) < (p : Int) + 3 + 6) = false := decide_eq_false (by omega)
                      have q2c : decide ((q : Int) < (p : Int) + 1 + 1 + 1 + 6) = false := decide_eq_false (by omega)
                      clear hR hnz
                      go_wp2
                      go_meet
                      case rel => exact ⟨q, n, rfl, rfl, by first | rfl | trivial, HN.out⟩
                    obtain ⟨f', rfl⟩ : ∃ f2, f' = f2 + 1 := ⟨f' - 1, by omega⟩
                    have q2 : decide ((q : Int) < (p : Int) + 9) = true := decide_eq_true (by omega)
                    have q2b : decide ((q : Int) < (p : Int) + 3 + 6) = true := decide_eq_true (by omega)
                    have q2c : decide ((q : Int) < (p : Int) + 1 + 1 + 1 + 6) = true := decide_eq_true (by omega)
                    have hb := byt_lt s q
                    have dq := fun W => rdigit_any (byt s q) hb W
                    have vq := digV_lt (byt s q)
                    have hstep : num s (f' + 1) q n = if digOk (byt s q) = true then (if n * 16 + digV (byt s q) = 0 then (0, q + 1) else num s f' (q + 1) (n * 16 + digV (byt s q))) else (n, q) := by
                      rw [num]; simp [hq1]
                    rw [hR] at hstep
                    cases hok : digOk (byt s q)
                    · rw [rdig_no _ hok] at dq
                      have DQ := Lib.hid dq
                      rw [hok] at hstep
                      have HN : Hid (num s 6 (p + 3) 0 = (n, q)) := hstep
                      clear hstep dq hok hR hnz vq
                      generalize byt s q = bq at *
                      go_wp2_with (go_at_call 44; refine (DQ.out _).mono ?_; rintro e w' ⟨rfl, rfl⟩)
                      go_meet
                      case rel => exact ⟨q, n, rfl, rfl, by first | rfl | trivial, HN.out⟩
                    · rw [rdig_ok _ hok] at dq
                      rw [hok] at hstep
                      generalize digV (byt s q) = d at dq vq hstep
                      have DQ := Lib.hid dq
                      have hd0 : ¬ ((d : Int) < 0) := by omega
                      clear dq hok
                      generalize byt s q = bq at *
                      rcases Nat.eq_zero_or_pos n with hn0 | hn0
                      · subst hn0
                        have hq3 : q = p + 3 := by omega
                        have a1' : ((q : Int) == (p : Int) + 1 + 1 + 1) = true := beq_iff_eq.2 (by omega)
                        have a1b : ((q : Int) == (p : Int) + 3) = true := beq_iff_eq.2 (by omega)
                        have hR2 : Hid (if d = 0 then num s 6 (p + 3) 0 = (0, q + 1) else num s f' (q + 1) d = num s 6 (p + 3) 0) := by
                          show if d = 0 then num s 6 (p + 3) 0 = (0, q + 1) else num s f' (q + 1) d = num s 6 (p + 3) 0
                          split
                          · rename_i h0; subst h0; rw [hstep]; rfl
                          · rename_i h0
                            rw [hstep, if_pos rfl, if_neg (by omega)]
                            simp
                        clear hstep hR hnz
                        have Hq3 := Lib.hid hq3
                        clear hq3
                        go_wp2_with (go_at_call 44; refine (DQ.out _).mono ?_; rintro e w' ⟨rfl, rfl⟩)
                        go_roundw
                        case rel =>
                          have hq3 := Hq3.out
                          refine ⟨f', q + 1, d, by go_num, by go_num, trivial, by omega, by omega, by omega, ?_, by omega, ?_⟩
                          · have : 16 ^ 1 ≤ 16 ^ (6 - f') := Nat.pow_le_pow_right (by omega) (by omega)
                            omega
                          · have hR3 := hR2.out
                            by_cases h0 : d = 0
                            · rw [if_pos h0] at hR3
                              exact Or.inr ⟨h0, by omega, hR3⟩
                            · rw [if_neg h0] at hR3
                              exact Or.inl ⟨hR3, Or.inl (by omega)⟩
                        case measure => simp [intOf]; omega
                      · have hn0' : 0 < (n : Int) := by omega
                        have a1' : decide (0 < (n : Int)) = true := decide_eq_true hn0'
                        have hR2 : Hid (num s f' (q + 1) (n * 16 + d) = num s 6 (p + 3) 0) := by
                          show num s f' (q + 1) (n * 16 + d) = num s 6 (p + 3) 0
                          rw [hstep, if_pos rfl, if_neg (by omega)]
                        clear hstep hR hnz
                        by_cases hq3 : q = p + 3
                        · exfalso
                          have := Hn.out
                          rw [show 6 - (f' + 1) = 0 by omega] at this
                          simp at this
                          omega
                        have a2' : ((q : Int) == (p : Int) + 1 + 1 + 1) = false := beq_eq_false_iff_ne.2 (by omega)
                        have a2b : ((q : Int) == (p : Int) + 3) = false := beq_eq_false_iff_ne.2 (by omega)
                        go_wp2_with (go_at_call 44; refine (DQ.out _).mono ?_; rintro e w' ⟨rfl, rfl⟩)
                        go_roundw
                        case rel =>
                          refine ⟨f', q + 1, n * 16 + d, by go_num, by go_num, trivial, by omega, by omega, by omega, ?_, by omega, Or.inl ⟨hR2.out, Or.inl (by omega)⟩⟩
                          have := Hn.out
                          rw [show 6 - f' = 6 - (f' + 1) + 1 by omega, Nat.pow_succ]
                          omega
                        case measure => simp [intOf]; omega
                  · have HN := Lib.hid hN
                    have h4a : p + 4 ≤ q := by omega
                    have h4b : q ≤ p + 4 := by omega
                    have q2 : decide ((q : Int) < (p : Int) + 9) = true := decide_eq_true (by omega)
                    have q2b : decide ((q : Int) < (p : Int) + 3 + 6) = true := decide_eq_true (by omega)
                    have q2c : decide ((q : Int) < (p : Int) + 1 + 1 + 1 + 6) = true := decide_eq_true (by omega)
                    have a2' : ((q : Int) == (p : Int) + 1 + 1 + 1) = false := beq_eq_false_iff_ne.2 (by omega)
                    have a2b : ((q : Int) == (p : Int) + 3) = false := beq_eq_false_iff_ne.2 (by omega)
                    have hb := byt_lt s q
                    have dq := fun W => rdigit_any (byt s q) hb W
                    have vq := digV_lt (byt s q)
                    clear hN hqp
                    cases hok : digOk (byt s q)
                    · rw [rdig_no _ hok] at dq
                      have DQ := Lib.hid dq
                      clear dq hok vq
                      generalize byt s q = bq at *
                      go_wp2_with (go_at_call 44; refine (DQ.out _).mono ?_; rintro e w' ⟨rfl, rfl⟩)
                      go_meet
                      case rel => exact ⟨q, 0, rfl, rfl, by first | rfl | trivial, HN.out⟩
                    · rw [rdig_ok _ hok] at dq
                      generalize digV (byt s q) = d at dq vq
                      have DQ := Lib.hid dq
                      have hd0 : ¬ ((d : Int) < 0) := by omega
                      clear dq hok
                      generalize byt s q = bq at *
                      go_wp2_with (go_at_call 44; refine (DQ.out _).mono ?_; rintro e w' ⟨rfl, rfl⟩)
                      go_meet
                      case rel => exact ⟨q, 0, rfl, rfl, by first | rfl | trivial, HN.out⟩
            case rest =>
              as_aux_lemma =>
                obtain ⟨q, n, hi, hm, hw, hN⟩ := hcut
                subst hi hm hw
                rw [hN] at hpl hnl hxx
                simp only at hpl hnl hxx
                obtain ⟨hq1, hq2, hq3⟩ := hpl
                clear hN i2 i2' i1 i0
                by_cases hq0 : ¬ q < s.size
                · rw [if_pos hq0] at hxx
                  rw [hxx, if_neg (show ¬ (2 = 0) by omega)] at hst
                  have Hs : Hid (U = ([], s.size, 2)) := by
                    rw [hst]
                    show ([], q, 2) = _
                    rw [show s.size = q by omega]
                  have q2 : (s.size : Int) ≤ (q : Int) := by omega
                  clear hst hxx
                  go_wp2_with (go_at_call 43; refine (fault_short_z s _ (by omega) _).mono ?_; rintro e w' ⟨rfl, rfl⟩)
                  go_ret3
                  refine ⟨?_, HK.out⟩
                  rw [Hs.out]
                  rfl
                have hq4 : q < s.size := by omega
                have q4' : ¬ ((s.size : Int) ≤ (q : Int)) := by omega
                have q4b : decide ((s.size : Int) ≤ (q : Int)) = false := decide_eq_false q4'
                have iq := idx_byt s q hq4 (q : Int) rfl
                rw [if_neg hq0] at hxx
                by_cases a1 : q = p + 3
                · have hE : E = ([], q, 16) := by
                    rw [hxx]
                    split
                    · rfl
                    · rw [if_pos (Or.inl a1)]
                  rw [hE, if_neg (show ¬ (16 = 0) by omega)] at hst
                  have Hs := Lib.hid hst
                  have a1' : ((q : Int) == (p : Int) + 1 + 1 + 1) = true := beq_iff_eq.2 (by omega)
                  have a1b : ((q : Int) == (p : Int) + 3) = true := beq_iff_eq.2 (by omega)
                  clear hst hxx hE a1
                  generalize byt s q = bq at *
                  go_wp2_with (go_at_call 43; refine (fault_text_z s q hq4 _ (by omega) _).mono ?_; rintro e w' ⟨rfl, rfl⟩)
                  go_ret3
                  refine ⟨?_, HK.out⟩
                  rw [Hs.out]
                  rfl
                have a1' : ((q : Int) == (p : Int) + 1 + 1 + 1) = false := beq_eq_false_iff_ne.2 (by omega)
                have a1b : ((q : Int) == (p : Int) + 3) = false := beq_eq_false_iff_ne.2 (by omega)
                by_cases a2 : byt s q ≠ 125
                · rw [if_pos a2] at hxx
                  rw [hxx, if_neg (show ¬ (16 = 0) by omega)] at hst
                  have Hs := Lib.hid hst
                  have a2' : ((byt s q : Int) != 125) = true := by rw [bne_iff_ne]; omega
                  clear hst hxx a2
                  generalize byt s q = bq at *
                  go_wp2_with (go_at_call 43; refine (fault_text_z s q hq4 _ (by omega) _).mono ?_; rintro e w' ⟨rfl, rfl⟩)
                  go_ret3
                  refine ⟨?_, HK.out⟩
                  rw [Hs.out]
                  rfl
                have a2 : byt s q = 125 := by omega
                rw [if_neg (show ¬ byt s q ≠ 125 by omega)] at hxx
                rw [a2] at iq
                clear a2
                by_cases a3 : 1114111 < n
                · rw [if_pos (Or.inr (Or.inl a3))] at hxx
                  rw [hxx, if_neg (show ¬ (16 = 0) by omega)] at hst
                  have Hs := Lib.hid hst
                  have a3' : 1114111 < (n : Int) := by omega
                  clear hst hxx
                  go_wp2_with (go_at_call 43; refine (fault_text_z s q hq4 _ (by omega) _).mono ?_; rintro e w' ⟨rfl, rfl⟩)
                  go_ret3
                  refine ⟨?_, HK.out⟩
                  rw [Hs.out]
                  rfl
                by_cases a4 : 55296 ≤ n ∧ n ≤ 57343
                · rw [if_pos (Or.inr (Or.inr a4))] at hxx
                  rw [hxx, if_neg (show ¬ (16 = 0) by omega)] at hst
                  have Hs := Lib.hid hst
                  have a4' : 55296 ≤ (n : Int) := by omega
                  have a4b : (n : Int) ≤ 57343 := by omega
                  clear hst hxx a3 a4
                  go_wp2_with (go_at_call 43; refine (fault_text_z s q hq4 _ (by omega) _).mono ?_; rintro e w' ⟨rfl, rfl⟩)
                  go_ret3
                  refine ⟨?_, HK.out⟩
                  rw [Hs.out]
                  rfl
                rw [if_neg (show ¬ (q = p + 3 ∨ 1114111 < n ∨ (55296 ≤ n ∧ n ≤ 57343)) by omega)] at hxx
                rw [hxx, if_pos rfl] at hst
                have by0 := fun W => rBytes_any n (by omega) a4 W
                have hel : (Lib.encodeRune (n : Nat)).length ≤ 4 := by simp only [Lib.encodeRune, List.length_map]; exact (Lib.encodeRuneZ_length _).2
                generalize Lib.encodeRune (n : Nat) = L at by0 hel hst
                have Hs := Lib.hid hst
                have BY := Lib.hid by0
                clear by0
                have a5 : (n : Int) < 55296 ∨ 57343 < (n : Int) := by omega
                have a3' : (n : Int) ≤ 1114111 := by omega
                clear hst hxx a3 a4 a1 hq0
                rcases a5 with a5 | a5
                all_goals
                  go_wp2_with (go_at_call 40; refine (BY.out _).mono ?_; rintro e w2 ⟨rfl, hbY⟩)
                  go_roundw
                  case rel => first | exact ⟨f, q + 1, acc ++ L, by simp only [app_str], by go_num, HK.out.trans (hbY.mono HK.out.size), Hs.out.symm, by omega, by omega, by simp; omega, by omega⟩ | ((repeat apply Exists.intro); exact ⟨⟨f, q + 1, acc ++ L, by simp only [app_str], by go_num, HK.out.trans (hbY.mono HK.out.size), Hs.out.symm, by omega, by omega, by simp; omega, by omega⟩, rfl⟩)
                  case measure => simp [intOf]; omega
        rw [if_neg c5, if_neg (show ¬ (16 = 0) by omega)] at hst
        have Hs := Lib.hid hst
        have e1 : ((b : Int) == 34) = false := beq_eq_false_iff_ne.2 (by omega)
        have e2 : ((b : Int) == 92) = false := beq_eq_false_iff_ne.2 (by omega)
        have e3 : ((b : Int) == 110) = false := beq_eq_false_iff_ne.2 (by omega)
        have e4 : ((b : Int) == 120) = false := beq_eq_false_iff_ne.2 (by omega)
        have e5 : ((b : Int) == 117) = false := beq_eq_false_iff_ne.2 (by omega)
        clear hst c1 c2 c3 c4 c5
        go_wp2_with (go_at_call 43; refine (fault_text_z s (p + 1) hp2 _ (by omega) _).mono ?_; rintro e w' ⟨rfl, rfl⟩)
        go_ret3
        refine ⟨?_, HK.out⟩
        rw [Hs.out]
        rfl
      rw [if_neg c2] at hst
      have e2 : ((b : Int) != 92) = true := by rw [bne_iff_ne]; omega
      by_cases c3 : 32 ≤ b ∧ b ≤ 126
      · rw [if_pos c3] at hst
        have Hs := Lib.hid hst
        have c3a : 32 ≤ (b : Int) := by omega
        have c3b : (b : Int) ≤ 126 := by omega
        clear hst c1 c2 c3
        go_wp2
        go_roundw
        case rel => exact ⟨f, p + 1, acc ++ [g], by rw [H1s.out, app_str], by go_num, HK.out, Hs.out.symm, by omega, by omega, by simp; omega, by omega⟩
        case measure => simp [intOf]; omega
      · rw [if_neg c3] at hst
        have Hs := Lib.hid hst
        have c5 : (b : Int) < 32 ∨ 126 < (b : Int) := by omega
        clear hst c1 c2 c3
        rcases c5 with c5 | c5
        all_goals
          go_wp2_with (go_at_call 43; refine FT.out.mono ?_; rintro e w' ⟨rfl, rfl⟩)
          go_ret3
          refine ⟨?_, HK.out⟩
          rw [Hs.out]
          rfl
    · have hst : U = ([], p, 2) := by
        rw [← HU.out]
        cases f with
        | zero => rfl
        | succ f => rw [unqFrom, if_pos (by omega)]
      obtain rfl : p = s.size := by omega
      have Hs := Lib.hid hst
      have hp2 : ¬ ((s.size : Int) < (s.size : Int)) := by omega
      clear hst
      go_wp2_with (go_at_call 43; refine FShort.out.mono ?_; rintro e w' ⟨rfl, rfl⟩)
      go_ret3
      refine ⟨?_, HK.out⟩
      rw [Hs.out]
      rfl
end Go.Proofs.YthkjnhihpbomaaaDoor
