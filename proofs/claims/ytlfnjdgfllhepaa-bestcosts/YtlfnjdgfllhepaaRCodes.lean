/- A walk of the document's Codes. -/
import Derived.Test.YtlfnjdgfllhepaaRCodes0
namespace Go.Proofs.Ytlfnjdgfllhepaa
open Go.RowKit

/-- What Codes answers. -/
def CodesPost (c : Nat → Nat) (s : ByteArray) (w : World) (e : Ending) (w' : World) : Prop :=
  ((Right c s.data.toList ∧ ∃ v, e = .returned (.tuple #[v, .bool true]) ∧ OwnC w.heap.size v (codes c s.data.toList 16) w') ∨ (¬ Right c s.data.toList ∧ e = .returned (.tuple #[.slice none 0 0, .bool false]))) ∧ Below w.heap.size w w'

set_option maxRecDepth 100000 in
set_option maxHeartbeats 8000000 in
theorem Codes_any (c : Nat → Nat) (hc : ∀ i, c i < 256) (s : ByteArray) (hs : s.size ≤ 300) (w : World) :
    Calls Try.prog 15 #[.agg (cnt c), .string s] w fun e w' => CodesPost c s w e w' := by
  have HB0 := Lib.hid (below_box w (.cells (cnt c) 23))
  have HR0 := Lib.hid (RowC.new c w)
  have HCC := Lib.hid hc
  have hsz : s.data.toList.length = s.size := by simp
  have HSZ := Lib.hid hsz
  clear hc hsz
  go_enter Try.func15, Try.ntmps15
  go_wp2
  generalize hw1 : w.alloc (.cells (cnt c) 23) = w1 at *
  clear hw1
  go_loopw [6, 7, 8] (fun v x n wr => ∃ m : Nat, m ≤ 16 ∧ n = .int .i64 ((m : Int) + 1) ∧ x = .int .i64 (nx c m) ∧ off c m ≤ s.size ∧ OwnC w.heap.size v (codes c s.data.toList m) wr ∧ RowC w.heap.size c wr ∧ Below w.heap.size w wr) (fun _ _ n _ => 17 - (intOf n).toNat)
  case atStart => exact ⟨0, by omega, rfl, rfl, Nat.zero_le _, World.ownsRow_nil _ _ _ _, HR0.out, HB0.out⟩
  case round =>
    obtain ⟨m, hm, rfl, rfl, ho, hO, hRow, hB⟩ := hrel
    have HO := Lib.hid hO
    have HRow := Lib.hid hRow
    have HB := Lib.hid hB
    clear hO hRow hB
    by_cases hlt : m < 16
    · have hnx := nx_two c m
      have hf := fst_16 c HCC.out m hm
      have HNX := Lib.hid (show nx c (m + 1) = fst c m + c m from rfl)
      have HOF := Lib.hid (show off c (m + 1) = off c m + c m from rfl)
      have hnl : nx c m ≤ 33554432 := by omega
      have hnI : (nx c m : Int) * 2 = ((fst c m : Nat) : Int) := by omega
      have hcm := HCC.out m
      have h16 : decide ((m : Int) + 1 ≤ 16) = true := decide_eq_true (by omega)
      generalize nx c m = X at *
      generalize hF : fst c m = F at *
      generalize hd : c m = d at *
      generalize hOO : off c m = O at *
      have HF := Lib.hid hF
      have HD := Lib.hid hd
      have HOO := Lib.hid hOO
      clear hF hd hOO
      go_wp2
      go_loopw [6, 7, 9] (fun v x i wr => ∃ a : Nat, a ≤ d ∧ i = .int .i64 a ∧ x = .int .i64 (F + a : Nat) ∧ O + a ≤ s.size ∧ OwnC w.heap.size v (codes c s.data.toList m ++ (row c s.data.toList m).take a) wr ∧ RowC w.heap.size c wr ∧ Below w.heap.size w wr) (fun _ _ i _ => 256 - (intOf i).toNat)
      case atStart => exact ⟨0, Nat.zero_le _, rfl, by go_num, by omega, by rw [List.take_zero, List.append_nil]; exact HO.out, HRow.out, HB.out⟩
      case round =>
        obtain ⟨a, ha, rfl, rfl, ho2, hO, hRow, hB⟩ := hrel
        have x0 := hRow.cell hlt
        rw [HD.out] at x0
        have HO2 := Lib.hid hO
        have HRow2 := Lib.hid hRow
        have HB2 := Lib.hid hB
        have hBs := hB.size
        have hlen : (codes c s.data.toList m ++ (row c s.data.toList m).take a).length = O + a := by rw [List.length_append, codes_length, List.length_take, row_length, HOO.out, HD.out]; omega
        obtain ⟨p, q, hv⟩ := hO.len
        rw [hlen] at hv
        subst hv
        clear hO hRow hB
        by_cases hal : a < d
        · by_cases he : O + a = s.size
          · have hno : ¬ Right c s.data.toList := by
              intro h
              have h1 := h.sum
              rw [HSZ.out] at h1
              have h2 := off_le c (show m + 1 ≤ 16 by omega)
              rw [HOF.out] at h2
              omega
            have HNO := Lib.hid hno
            have he' : ((O : Int) + (a : Int) == (s.size : Int)) = true := by rw [beq_iff_eq]; omega
            clear hno hlen he
            go_wp2
            go_ret2
            exact ⟨.inr ⟨HNO.out, rfl⟩, HB2.out⟩
          · have he' : ((O : Int) + (a : Int) == (s.size : Int)) = false := by rw [beq_eq_false_iff_ne]; omega
            have hi : O + a < s.size := by omega
            have HT : Hid (codes c s.data.toList m ++ (row c s.data.toList m).take (a + 1) = (codes c s.data.toList m ++ (row c s.data.toList m).take a) ++ [(s[O + a].toNat, F + a, m + 1)]) := by
              unfold Hid
              rw [row_take c _ m a (by rw [HD.out]; exact hal), HOO.out, HF.out, getD_at s _ hi, List.append_assoc]
            have hb : s[O + a].toNat < 256 := s[O + a].toNat_lt
            have HLN := Lib.hid hlen
            clear hlen he
            generalize codes c s.data.toList m ++ (row c s.data.toList m).take a = A at *
            go_wp2_with (at_builtin; refine wpList_appC rfl _ _ rfl w.heap.size (.slice p (O + a) q) A (s[O + a].toNat, F + a, m + 1) rfl rfl HO2.out (by rw [HLN.out]; omega) hBs ?_)
            intro v3 w3 o3 b3 k3
            have HO3 := Lib.hid o3
            have HRow3 : Hid (RowC w.heap.size c w3) := kept_oth0 HRow2.out (by decide) k3
            have HB3 := Lib.hid (HB2.out.trans b3)
            clear o3 b3 k3
            go_wp2
            go_roundw
            case rel => exact ⟨a + 1, by omega, by go_num, by go_num, by omega, by rw [HT.out]; exact HO3.out, HRow3.out, HB3.out⟩
            case measure => simp [intOf]; omega
        · obtain rfl : a = d := by omega
          have HT : Hid (codes c s.data.toList m ++ (row c s.data.toList m).take a = codes c s.data.toList (m + 1)) := by
            unfold Hid
            rw [List.take_of_length_le (by rw [row_length, HD.out]; omega)]
            rfl
          have HO3 := HO2.out
          rw [HT.out] at HO3
          have HO4 := Lib.hid HO3
          clear HO3 HT HO2 hlen
          go_wp2
          go_roundw
          case rel => exact ⟨m + 1, by omega, by go_num, by rw [HNX.out], by rw [HOF.out]; omega, HO4.out, HRow2.out, HB2.out⟩
          case measure => simp [intOf]; omega
    · obtain rfl : m = 16 := by omega
      have h16 : decide (((16 : Nat) : Int) + 1 ≤ 16) = false := by decide
      obtain ⟨p, q, hv⟩ := HO.out.len
      rw [codes_length] at hv
      subst hv
      have HNS := Lib.hid (show off c 16 ≠ s.size ∨ s.size = 0 ∨ 256 < s.size → ¬ Right c s.data.toList by
        intro h1 h
        have e1 := h.sum
        have e2 := h.some
        have e3 := h.few
        rw [HSZ.out] at e1 e2 e3
        omega)
      generalize hN : off c 16 = N at *
      have HN := Lib.hid hN
      clear hN
      generalize nx c 16 = X at *
      by_cases h1 : N = s.size
      · subst h1
        by_cases h2 : s.size = 0
        · have h2' : ((s.size : Int) == 0) = true := by rw [beq_iff_eq]; omega
          have HNO := Lib.hid (HNS.out (.inr (.inl h2)))
          clear h2
          go_wp2
          go_ret2
          exact ⟨.inr ⟨HNO.out, rfl⟩, HB.out⟩
        by_cases h3 : 256 < s.size
        · have h2' : ((s.size : Int) == 0) = false := by rw [beq_eq_false_iff_ne]; omega
          have h3' : (256 : Int) < (s.size : Int) := by omega
          have HNO := Lib.hid (HNS.out (.inr (.inr h3)))
          clear h2 h3
          go_wp2
          go_ret2
          exact ⟨.inr ⟨HNO.out, rfl⟩, HB.out⟩
        have h2' : ((s.size : Int) == 0) = false := by rw [beq_eq_false_iff_ne]; omega
        have h3' : ¬ (256 : Int) < (s.size : Int) := by omega
        have HSUM : Hid (off c 16 = s.data.toList.length) := by unfold Hid; rw [HSZ.out]; exact HN.out
        obtain ⟨g, rfl, hcl⟩ := codes_cells rfl HO.out HSUM.out (by omega)
        have HCL := Lib.hid hcl
        clear hcl
        go_wp2
        clear h3' h2'
        go_loopw [10] (fun i wq => ∃ a : Nat, a ≤ s.size ∧ i = .int .i64 a ∧ (∀ j, j < a → codeN c j + 1 < 2 ^ codeL c j) ∧ (s.data.toList.take a).Nodup ∧ OwnC w.heap.size (.slice (some ⟨g, 0, none⟩) s.size q) (codes c s.data.toList 16) wq ∧ Below w.heap.size w wq) (fun i _ => s.size - (intOf i).toNat)
        case atStart => exact ⟨0, Nat.zero_le _, rfl, fun j hj => by omega, by simp, HO.out, HB.out⟩
        case round =>
          obtain ⟨a, ha, rfl, hok, hnd, hO, hB⟩ := hrel
          have HOK := Lib.hid hok
          have HND := Lib.hid hnd
          have HO2 := Lib.hid hO
          have HB2 := Lib.hid hB
          clear hok hnd hO hB
          by_cases hlt : a < s.size
          · have hL := codeL_le' HSUM.out (i := a) (by rw [HSZ.out]; exact hlt)
            have hX := codeN_le' HCC.out HSUM.out (i := a) (by rw [HSZ.out]; exact hlt)
            obtain ⟨y0, y1, y2⟩ := HCL.out _ HO2.out a hlt
            have HLT := Lib.hid (fun h : Right c s.data.toList => code_lt h (i := a) (by rw [HSZ.out]; exact hlt))
            have hxb : s[a].toNat < 256 := s[a].toNat_lt
            generalize hXX : codeN c a = X at *
            generalize hLL : codeL c a = L at *
            have HXX := Lib.hid hXX
            have HLL := Lib.hid hLL
            clear hXX hLL
            go_wp2
            go_loop [11, 12] (fun p k => ∃ b : Nat, b ≤ L ∧ k = .int .i64 b ∧ p = .int .i64 (2 ^ b : Nat)) (fun _ k => 16 - (intOf k).toNat)
            case atStart => exact ⟨0, Nat.zero_le _, rfl, rfl⟩
            case round =>
              obtain ⟨b, hb, rfl, rfl⟩ := hrel
              have hp := pow_le24 b (by omega)
              by_cases hbl : b < L
              · have HP := Lib.hid (show 2 ^ (b + 1) = 2 ^ b * 2 from Nat.pow_succ ..)
                generalize 2 ^ b = P at *
                go_wp2
                go_round
                case rel => exact ⟨b + 1, by omega, by go_num, by rw [HP.out]; go_num⟩
                case measure => simp [intOf]; omega
              · obtain rfl : b = L := by omega
                clear hbl hb
                have hpp := Nat.two_pow_pos b
                by_cases hf : X + 1 < 2 ^ b
                · have HF := Lib.hid hf
                  generalize hP : 2 ^ b = P at *
                  have HPP := Lib.hid hP
                  clear hP
                  have hf' : ¬ (P : Int) - 1 ≤ (X : Int) := by omega
                  clear hf
                  go_wp2
                  go_loopw [13] (fun k wq => ∃ d : Nat, d ≤ a ∧ k = .int .i64 d ∧ (∀ j (hj : j < d) (hj2 : j < s.size), s[j].toNat ≠ s[a].toNat) ∧ OwnC w.heap.size (.slice (some ⟨g, 0, none⟩) s.size q) (codes c s.data.toList 16) wq ∧ Below w.heap.size w wq) (fun k _ => a - (intOf k).toNat)
                  case atStart => exact ⟨0, Nat.zero_le _, rfl, fun j hj => by omega, HO2.out, HB2.out⟩
                  case round =>
                    obtain ⟨d, hd, rfl, hne, hO, hB⟩ := hrel
                    have HNE := Lib.hid hne
                    have HO3 := Lib.hid hO
                    have HB3 := Lib.hid hB
                    clear hne hO hB
                    by_cases hda : d < a
                    · have hds : d < s.size := by omega
                      obtain ⟨z0, _, _⟩ := HCL.out _ HO3.out d hds
                      obtain ⟨z1, _, _⟩ := HCL.out _ HO3.out a hlt
                      have hdb : s[d].toNat < 256 := s[d].toNat_lt
                      by_cases he : s[d].toNat = s[a].toNat
                      · have hno : ¬ Right c s.data.toList := by
                          intro h
                          exact List.pairwise_iff_getElem.1 h.once d a (by rw [HSZ.out]; exact hds) (by rw [HSZ.out]; exact hlt) hda (UInt8.toNat_inj.1 he)
                        have HNO := Lib.hid hno
                        have he' : ((s[d].toNat : Int) == (s[a].toNat : Int)) = true := by rw [beq_iff_eq]; omega
                        clear he hno
                        go_wp2
                        go_quiet (fail)
                        go_wp2
                        go_ret2
                        exact ⟨.inr ⟨HNO.out, rfl⟩, HB3.out.trans (below_drewN _ _ _)⟩
                      · have HNE2 : Hid (∀ j (hj : j < d + 1) (hj2 : j < s.size), s[j].toNat ≠ s[a].toNat) := by
                          intro j hj hj2
                          by_cases e : j = d
                          · subst e; exact he
                          · exact HNE.out j (by omega) hj2
                        have he' : ((s[d].toNat : Int) == (s[a].toNat : Int)) = false := by rw [beq_eq_false_iff_ne]; omega
                        clear he
                        go_wp2
                        go_quiet (fail)
                        go_wp2
                        go_roundw
                        case rel => exact ⟨d + 1, by omega, by go_num, HNE2.out, HO3.out, HB3.out.trans (below_drewN _ _ _)⟩
                        case measure => simp [intOf]; omega
                    · obtain rfl : d = a := by omega
                      have HOK2 : Hid (∀ j, j < d + 1 → codeN c j + 1 < 2 ^ codeL c j) := by
                        intro j hj
                        by_cases e : j = d
                        · subst e; rw [HXX.out, HLL.out, HPP.out]; exact HF.out
                        · exact HOK.out j (by omega)
                      have HND2 : Hid ((s.data.toList.take (d + 1)).Nodup) := by
                        unfold Hid
                        have hdl : d < s.data.toList.length := by rw [HSZ.out]; exact hlt
                        rw [List.take_succ_eq_append_getElem hdl, List.nodup_append]
                        refine ⟨HND.out, by simp, ?_⟩
                        intro x hx y hy e
                        rw [List.mem_singleton] at hy
                        subst hy
                        obtain ⟨j, hj, e2⟩ := List.mem_iff_getElem.1 hx
                        rw [List.length_take] at hj
                        rw [List.getElem_take] at e2
                        have hjs : j < s.size := by omega
                        refine HNE.out j (by omega) hjs ?_
                        have e3 : s[j] = s[d] := e2.trans e
                        rw [e3]
                      clear hda
                      go_wp2
                      go_roundw
                      case rel => exact ⟨d + 1, by omega, by go_num, HOK2.out, HND2.out, HO3.out, HB3.out⟩
                      case measure => simp [intOf]; omega
                · have hno : ¬ Right c s.data.toList := fun h => hf (HLT.out h)
                  have HNO := Lib.hid hno
                  generalize 2 ^ b = P at *
                  have hf' : (P : Int) - 1 ≤ (X : Int) := by omega
                  clear hf hno
                  go_wp2
                  go_ret2
                  exact ⟨.inr ⟨HNO.out, rfl⟩, HB2.out⟩
          · obtain rfl : a = s.size := by omega
            have hR : Right c s.data.toList := by
              have hnd := HND.out
              rw [List.take_of_length_le (by rw [HSZ.out]; omega)] at hnd
              exact ⟨HSUM.out, by rw [HSZ.out]; omega, by rw [HSZ.out]; omega, hnd, free_of HSUM.out fun i hi => HOK.out i (by rw [← HSZ.out]; exact hi)⟩
            have HR := Lib.hid hR
            clear hR
            go_wp2
            go_ret2
            exact ⟨.inl ⟨HR.out, _, rfl, HO2.out⟩, HB2.out⟩
      · have h1' : ((N : Int) != (s.size : Int)) = true := by rw [bne_iff_ne]; omega
        have HNO := Lib.hid (HNS.out (.inl h1))
        clear h1
        go_wp2
        go_ret2
        exact ⟨.inr ⟨HNO.out, rfl⟩, HB.out⟩
end Go.Proofs.Ytlfnjdgfllhepaa
