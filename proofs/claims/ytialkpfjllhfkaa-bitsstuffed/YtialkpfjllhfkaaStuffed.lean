/- A walk: within what a writer makes, no ff is followed by anything but 00, but where a marker was put. -/
import Derived.Test.YtialkpfjllhfkaaPlain3
import Derived.Test.YtialkpfjllhfkaaViews
import Derived.Lib.Strings
namespace Go.Proofs.Ytialkpfjllhfkaa
open Go.RowKit

set_option maxHeartbeats 4000000 in
theorem stuffed_one (p0 : Option Addr) (cap : Nat) (L : List Call3) (w : World) (hL : L.length ≤ 200) (h256 : ∀ x ∈ L, x.1 < 256) (hc : Acts p0 L w) :
    Calls Try.prog 6 #[.slice p0 L.length cap] w fun e w' => e = .returned (.bool true) ∧ Below w.heap.size w w' := by
  have HC0 := Lib.hid hc
  clear hc
  have hLI : ¬ (200 : Int) < (L.length : Int) := by omega
  go_enter Try.func6, Try.ntmps6
  go_wp2_with fail
  go_at_call 8
  refine (awake_any w).mono ?_
  rintro e w1 ⟨rfl, b1⟩
  have HB1 := Lib.hid b1
  have HC1 := Lib.hid (HC0.out.on b1)
  have hs1 := b1.size
  clear b1
  go_wp2_with fail
  go_at_call 9
  refine (New_bits w1).mono ?_
  rintro e w2 ⟨rfl, c2, b2⟩
  have HW2 := Lib.hid c2
  have HB2 := Lib.hid b2
  clear c2 b2
  generalize hg : w1.heap.size = g at *
  have HG := Lib.hid hg
  clear hg
  go_wp2
  go_loopw [4, 5] (fun m i wr => ∃ k : Nat, i = .int .i64 k ∧ k ≤ L.length ∧ m = .int .i64 (marks (L.take k)) ∧ WB g g (runW (L.take k)).1 (runW (L.take k)).2 wr ∧ Below g w1 wr) (fun _ i _ => L.length - (intOf i).toNat)
  case atStart => exact ⟨0, rfl, Nat.zero_le _, rfl, HW2.out, HB2.out⟩
  case round =>
    obtain ⟨k, rfl, hk, rfl, hW, hB⟩ := hrel
    have HW := Lib.hid hW
    have HB := Lib.hid hB
    clear hW hB
    by_cases hlt : k < L.length
    · obtain ⟨b, o, rfl, hb, hcell⟩ := HC1.out.resolve_left (fun h => by rw [h] at hlt; exact absurd hlt (Nat.not_lt_zero _))
      have hcell' := hcell k hlt
      have hts : L.take (k + 1) = L.take k ++ [L[k]] := List.take_succ_eq_append_getElem hlt
      have HM := Lib.hid (marks_snoc (L.take k) L[k])
      have HR := Lib.hid (runW_snoc (L.take k) L[k])
      rw [← hts] at HM HR
      have hsz := runW_take L k hL
      have h256k := h256 L[k] (List.getElem_mem hlt)
      have hml : marks (L.take k) ≤ 200 := by
        unfold marks
        have h1 := List.length_filter_le isMark (L.take k)
        have h2 : (L.take k).length ≤ L.length := by rw [List.length_take]; omega
        omega
      clear hts hcell
      generalize runW (L.take k) = S at *
      generalize marks (L.take k) = M at *
      obtain ⟨D, T⟩ := S
      simp only at HW hsz HR
      have hb' : b < g := by rw [← HG.out]; exact hb
      have x0 : wr.cell? ⟨b, o + k * 3, none⟩ = some (.int .u8 (L[k].1 : Nat)) := by rw [HB.out.cell hb']; exact hcell'.1
      have x1 : wr.cell? ⟨b, o + k * 3 + 1, none⟩ = some (.int .i64 L[k].2.1) := by rw [HB.out.cell hb']; exact hcell'.2.1
      have x2 : wr.cell? ⟨b, o + k * 3 + 2, none⟩ = some (.int .i64 L[k].2.2) := by rw [HB.out.cell hb']; exact hcell'.2.2
      clear hcell'
      generalize L[k] = a at *
      obtain ⟨d, v, n⟩ := a
      simp only at x0 x1 x2 h256k
      by_cases hp : d % 6 < 5
      · have HR2 : Hid (runW (L.take (k + 1)) = (D, T ++ putBits v n)) := by unfold Hid; rw [HR.out]; unfold stepW isPut; simp [hp]
        have HM2 : Hid (marks (L.take (k + 1)) = M) := by unfold Hid; rw [HM.out]; unfold isMark isPut; simp [hp]
        have HP := Lib.hid (Put_any g g D T v n wr.drew HW.out hsz)
        have hd : (d : Int) % 6 < 5 := by omega
        go_wp2
        go_region_with (go_at_call 10; refine HP.out.mono ?_; rintro e w3 ⟨rfl, c3, b3, _⟩)
        all_goals
          have HW3 := Lib.hid c3
          have HB3 : Hid (Below g w1 w3) := HB.out.trans (Below.trans (b := wr.drew) ⟨rfl, rfl, rfl, Nat.le_refl _, fun _ _ => rfl⟩ b3)
          clear c3 b3
          go_wp2
          go_roundw
          case rel => exact ⟨k + 1, by go_num, by omega, by rw [HM2.out], by rw [HR2.out]; exact HW3.out, HB3.out⟩
          case measure => simp [intOf]; omega
      · have hd : (d : Int) % 6 = 5 := by omega
        have hq : ¬ isPut (d, v, n) = true := by unfold isPut; simp; omega
        have HR2 : Hid (runW (L.take (k + 1)) = markS D T v) := by unfold Hid; rw [HR.out]; unfold stepW; rw [if_neg hq]
        have HM2 : Hid (marks (L.take (k + 1)) = M + if markErr v == 0 then 1 else 0) := by unfold Hid; rw [HM.out]; unfold isMark errW; rw [if_neg hq]; simp [hq]
        have hC := Mark_any g g D T v wr HW.out hsz
        by_cases h0 : markErr v = 0
        · rw [h0] at hC
          rw [h0] at HM2
          have HC := Lib.hid hC
          clear hC h0
          go_wp2_with fail
          go_at_call 11
          refine HC.out.mono ?_
          rintro e w3 ⟨rfl, c3, b3, _⟩
          have HW3 := Lib.hid c3
          have HB3 := Lib.hid (HB.out.trans b3)
          clear c3 b3
          go_wp2
          go_roundw
          case rel => exact ⟨k + 1, by go_num, by omega, by rw [HM2.out]; go_num, by rw [HR2.out]; exact HW3.out, HB3.out⟩
          case measure => simp [intOf]; omega
        · have hb0 : ((markErr v : Int) == 0) = false := by rw [beq_eq_false_iff_ne]; omega
          have hb1 : (markErr v == 0) = false := by rw [beq_eq_false_iff_ne]; exact h0
          rw [hb1] at HM2
          generalize markErr v = E at *
          have HC := Lib.hid hC
          clear hC h0 hb1
          go_wp2_with fail
          go_at_call 11
          refine HC.out.mono ?_
          rintro e w3 ⟨rfl, c3, b3, _⟩
          have HW3 := Lib.hid c3
          have HB3 := Lib.hid (HB.out.trans b3)
          clear c3 b3
          go_wp2
          go_roundw
          case rel => exact ⟨k + 1, by go_num, by omega, by rw [HM2.out]; rfl, by rw [HR2.out]; exact HW3.out, HB3.out⟩
          case measure => simp [intOf]; omega
    · obtain rfl : k = L.length := by omega
      have hsc := scan_run (L.take L.length)
      have hsz := runW_take L L.length hL
      generalize runW (L.take L.length) = S at *
      obtain ⟨D, T⟩ := S
      simp only at HW hsz hsc
      have hml : marks (L.take L.length) ≤ 200 := by
        unfold marks
        have h1 := List.length_filter_le isMark (L.take L.length)
        rw [List.take_length] at h1
        rw [List.take_length]
        omega
      generalize marks (L.take L.length) = M at *
      have hC := Bytes_bits g g D T wr HW.out hsz
      have hlen : (D ++ stuff T).length ≤ 1700000 := by
        have := stuff_length ((T.length + 7) / 8) T (by omega)
        rw [List.length_append]; omega
      obtain ⟨s, hs⟩ : ∃ s : ByteArray, s = ⟨(D ++ stuff T).toArray⟩ := ⟨_, rfl⟩
      rw [← hs] at hC
      have hsl : s.data.toList = D ++ stuff T := by rw [hs]
      rw [← hsl] at hsc hlen
      have hsS : s.size ≤ 1700000 := by rw [Lib.size_eq]; exact hlen
      have HC := Lib.hid hC
      have HSC := Lib.hid hsc
      clear hC hsc hs hsl hlen hlt
      go_wp2_with fail
      go_at_call 13
      refine HC.out.mono ?_
      rintro e w3 ⟨rfl, b3⟩
      have HB3 : Hid (Below w.heap.size w w3) := HB1.out.trans ((HB.out.trans (b3.mono (by rw [← HG.out]; exact HB.out.size))).mono hs1)
      clear b3
      go_wp2
      go_loop [4, 7] (fun m i => ∃ j c : Nat, i = .int .i64 j ∧ j ≤ s.size ∧ c ≤ 200 ∧ m = .int .i64 c ∧ scan (s.data.toList.drop j) = some c) (fun _ i => s.size - (intOf i).toNat)
      case atStart => exact ⟨0, M, rfl, Nat.zero_le _, hml, rfl, HSC.out⟩
      case round =>
        obtain ⟨j, c, rfl, hj, hc, rfl, hsc⟩ := hrel
        have HS := Lib.hid hsc
        clear hsc
        by_cases hlt : j < s.size
        · have hd0 : s.data.toList.drop j = s[j] :: s.data.toList.drop (j + 1) := by
            rw [List.drop_eq_getElem_cons (by simpa using hlt)]; rfl
          have hb := s[j].toNat_lt
          by_cases h5 : s[j].toNat = 255
          · by_cases hlt2 : j + 1 < s.size
            · have hd1 : s.data.toList.drop (j + 1) = s[j + 1] :: s.data.toList.drop (j + 2) := by
                rw [List.drop_eq_getElem_cons (by simpa using hlt2)]; rfl
              have hsc := HS.out
              rw [hd0, hd1, scan, if_pos ((toNat_255 _).2 h5)] at hsc
              have hb2 := s[j + 1].toNat_lt
              obtain ⟨c', hc', hcc⟩ := Option.map_eq_some_iff.1 hsc
              have HS' := Lib.hid hc'
              by_cases h0 : s[j + 1].toNat = 0
              · rw [if_pos ((toNat_0 _).2 h0)] at hcc
                have HE := Lib.hid hcc
                clear hc' hcc hsc hd0 hd1
                go_wp2
                go_round
                case rel => exact ⟨j + 2, c', by go_num, by omega, by have := HE.out; omega, by rw [← HE.out]; rfl, HS'.out⟩
                case measure => simp [intOf]; omega
              · rw [if_neg (fun h => h0 ((toNat_0 _).1 h))] at hcc
                have HE := Lib.hid hcc
                have h0' : ((s[j + 1].toNat : Int) == 0) = false := by rw [beq_eq_false_iff_ne]; omega
                clear hc' hcc hsc hd0 hd1
                go_wp2
                go_round
                case rel => exact ⟨j + 2, c', by go_num, by omega, by have := HE.out; omega, by have := HE.out; go_num, HS'.out⟩
                case measure => simp [intOf]; omega
            · exfalso
              have hsc := HS.out
              rw [hd0, List.drop_eq_nil_of_le (by simp; omega), scan, if_pos ((toNat_255 _).2 h5)] at hsc
              cases hsc
          · have hsc := HS.out
            have h5' : ((s[j].toNat : Int) == 255) = false := by rw [beq_eq_false_iff_ne]; omega
            have hsc2 : scan (s.data.toList.drop (j + 1)) = some c := by
              rw [hd0] at hsc
              cases h : s.data.toList.drop (j + 1) with
              | nil => rw [h, scan, if_neg (fun h => h5 ((toNat_255 _).1 h))] at hsc; rw [scan]; exact hsc
              | cons x t => rw [h, scan, if_neg (fun h => h5 ((toNat_255 _).1 h))] at hsc; exact hsc
            have HS' := Lib.hid hsc2
            clear hsc hsc2 hd0
            go_wp2
            go_round
            case rel => exact ⟨j + 1, c, by go_num, by omega, hc, rfl, HS'.out⟩
            case measure => simp [intOf]; omega
        · have hsc := HS.out
          rw [List.drop_eq_nil_of_le (by simp; omega), scan] at hsc
          obtain rfl : 0 = c := Option.some.inj hsc
          clear hsc
          go_wp2
          go_ret
          exact ⟨rfl, HB3.out⟩
set_option maxHeartbeats 1000000 in
theorem stuffed_long (p : Option Addr) (n cap : Nat) (_hn : n ≤ maxLen) (h : 200 < n) (w : World) :
    Calls Try.prog 6 #[.slice p n cap] w fun e w' => e = .returned (.bool true) ∧ Below w.heap.size w w' := by
  have h' : (200 : Int) < (n : Int) := by omega
  unfold maxLen at _hn
  go_enter Try.func6, Try.ntmps6
  go_wp2_with fail
  go_at_call 8
  refine (awake_any w).mono ?_
  rintro e w1 ⟨rfl, b1⟩
  have HB1 := Lib.hid b1
  clear b1
  go_wp2_with fail
  go_at_call 8
  refine (awake_any w1).mono ?_
  rintro e w2 ⟨rfl, b2⟩
  have HB2 := Lib.hid (HB1.out.trans (b2.mono HB1.out.size))
  clear b2
  go_wp2
  go_ret
  exact ⟨rfl, HB2.out⟩
theorem BitsStuffed_any (p : Option Addr) (cap : Nat) (L : List Call3) (w : World) (hn : L.length ≤ maxLen) (h256 : ∀ x ∈ L, x.1 < 256) (hc : Acts p L w) :
    Calls Try.prog 6 #[.slice p L.length cap] w fun e w' => e = .returned (.bool true) ∧ Below w.heap.size w w' := by
  by_cases h : 200 < L.length
  · exact stuffed_long p L.length cap hn h w
  · exact stuffed_one p cap L w (by omega) h256 hc
end Go.Proofs.Ytialkpfjllhfkaa
