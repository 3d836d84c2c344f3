/- A walk: what was put is read again, marker by marker. -/
import Derived.Test.YtialkpfjllhfkaaBack0
namespace Go.Proofs.Ytialkpfjllhfkaa
open Go.RowKit

theorem ones_eq (H : List Bool) (hH : H.length < 8) (h : val H = 2 ^ H.length - 1) : (val H : Int) = wrap64 (wrap64 (2 ^ H.length) - 1) := by
  have h1 := pow_le24 H.length (by omega)
  have h2 := Nat.two_pow_pos H.length
  rw [wrap_pow _ (by omega), wrap64_small _ (by omega) (by omega), h]
  omega
theorem ones_bne (H : List Bool) (hH : H.length < 8) (h : val H = 2 ^ H.length - 1) : ((val H : Int) != wrap64 (wrap64 (2 ^ H.length) - 1)) = false := by
  rw [bne_eq_false_iff_eq]; exact ones_eq H hH h
theorem ones_beq (H : List Bool) (hH : H.length < 8) (h : val H = 2 ^ H.length - 1) : ((val H : Int) == wrap64 (wrap64 (2 ^ H.length) - 1)) = true := by
  rw [beq_iff_eq]; exact ones_eq H hH h
theorem goods_length (L : List Call3) (k : Nat) (hL : L.length ≤ 200) : (goods (L.take k)).length ≤ 200 := by
  have h1 := List.length_filter_le okC (L.take k)
  have h2 : (L.take k).length ≤ L.length := by rw [List.length_take]; omega
  unfold goods
  omega

set_option maxRecDepth 100000 in
set_option maxHeartbeats 4000000 in
theorem back_one (p0 : Option Addr) (cap : Nat) (L : List Call3) (w : World) (hL : L.length ≤ 200) (h256 : ∀ x ∈ L, x.1 < 256) (hc : Acts p0 L w) :
    Calls Try.prog 3 #[.slice p0 L.length cap] w fun e w' => e = .returned (.bool true) ∧ Below w.heap.size w w' := by
  have HC0 := Lib.hid hc
  clear hc
  have hLI : ¬ (200 : Int) < (L.length : Int) := by omega
  go_enter Try.func3, Try.ntmps3
  go_wp2_with fail
  go_at_call 8
  refine (awake_any w).mono ?_
  rintro e w1 ⟨rfl, b1⟩
  have HB1 := Lib.hid b1
  have HC1 := Lib.hid (HC0.out.on b1)
  have hs1 := b1.size
  clear b1
  go_wp2_with fail
  go_at_call 9
  refine (New_bits w1).mono ?_
  rintro e w2 ⟨rfl, c2, b2⟩
  have HW2 := Lib.hid c2
  have HB2 := Lib.hid b2
  clear c2 b2
  generalize hg : w1.heap.size = g at *
  have HG := Lib.hid hg
  clear hg
  go_wp2
  go_loopw [4, 5] (fun v i wr => ∃ k : Nat, i = .int .i64 k ∧ k ≤ L.length ∧ OwnA g v (goods (L.take k)) wr ∧ WB g g (runW (L.take k)).1 (runW (L.take k)).2 wr ∧ Below g w1 wr) (fun _ i _ => L.length - (intOf i).toNat)
  case atStart => exact ⟨0, rfl, Nat.zero_le _, World.ownsRow_nil _ _ _ _, HW2.out, HB2.out⟩
  case round =>
    obtain ⟨k, rfl, hk, hO, hW, hB⟩ := hrel
    have HO := Lib.hid hO
    have HW := Lib.hid hW
    have HB := Lib.hid hB
    clear hW hB hO
    by_cases hlt : k < L.length
    · obtain ⟨b, o, rfl, hb, hcell⟩ := HC1.out.resolve_left (fun h => by rw [h] at hlt; exact absurd hlt (Nat.not_lt_zero _))
      have hcell' := hcell k hlt
      have hts : L.take (k + 1) = L.take k ++ [L[k]] := List.take_succ_eq_append_getElem hlt
      have HM := Lib.hid (goods_snoc (L.take k) L[k])
      have HR := Lib.hid (runW_snoc (L.take k) L[k])
      rw [← hts] at HM HR
      have hsz := runW_take L k hL
      have h256k := h256 L[k] (List.getElem_mem hlt)
      have hml := goods_length L k hL
      have hb' : b < g := by rw [← HG.out]; exact hb
      clear hts hcell
      generalize runW (L.take k) = S at *
      generalize goods (L.take k) = M at *
      obtain ⟨D, T⟩ := S
      simp only at HW hsz HR
      have HX : Hid (∀ W, Below g w1 W → W.cell? ⟨b, o + k * 3, none⟩ = some (.int .u8 (L[k].1 : Nat)) ∧ W.cell? ⟨b, o + k * 3 + 1, none⟩ = some (.int .i64 L[k].2.1) ∧ W.cell? ⟨b, o + k * 3 + 2, none⟩ = some (.int .i64 L[k].2.2)) := by
        intro W hW
        rw [hW.cell hb', hW.cell hb', hW.cell hb']
        exact hcell'
      clear hcell'
      generalize L[k] = a at *
      obtain ⟨d, v, n⟩ := a
      simp only at HX h256k
      obtain ⟨x0, x1, x2⟩ := HX.out wr HB.out
      by_cases hp : d % 6 < 5
      · have hq : isPut (d, v, n) = true := by unfold isPut; simp [hp]
        have HR2 : Hid (runW (L.take (k + 1)) = (D, T ++ putBits v n)) := by unfold Hid; rw [HR.out]; unfold stepW; rw [if_pos hq]
        have hC := Put_any g g D T v n wr.drew HW.out hsz
        have hd : (d : Int) % 6 < 5 := by omega
        have hE : errW (d, v, n) = putErr v n := by unfold errW; rw [if_pos hq]
        by_cases h0 : putErr v n = 0
        · have HM2 : Hid (goods (L.take (k + 1)) = M ++ [(d, v, n)]) := by unfold Hid; rw [HM.out]; unfold okC; rw [hE, h0]; rfl
          rw [h0] at hC
          have HP := Lib.hid hC
          clear hC h0 hE hq
          go_wp2
          go_region_with (go_at_call 10; refine HP.out.mono ?_; rintro e w3 ⟨rfl, c3, b3, k3⟩)
          all_goals
            have HW3 := Lib.hid c3
            have HB3 : Hid (Below g w1 w3) := HB.out.trans (Below.trans (b := wr.drew) ⟨rfl, rfl, rfl, Nat.le_refl _, fun _ _ => rfl⟩ b3)
            have HO3 : Hid (OwnA g u4 M w3) := OwnA.oth (w := wr.drew) HO.out (D := D) (T := T) HW.out k3
            obtain ⟨y0, y1, y2⟩ := HX.out w3 HB3.out
            have hs3 := HB3.out.size
            have hgs : g ≤ w3.heap.size := by rw [← HG.out]; exact hs3
            clear c3 b3 k3
            go_wp2_with (at_builtin; refine wpList_appA rfl _ _ rfl g u4 M (d, v, n) rfl rfl HO3.out (by omega) hgs ?_)
            intro v4 w4 o4 b4 k4
            have HO4 := Lib.hid o4
            have HB4 := Lib.hid (HB3.out.trans b4)
            have HW4 := Lib.hid (HW3.out.oth k4)
            clear o4 b4 k4
            go_wp2
            go_roundw
            case rel => exact ⟨k + 1, by go_num, by omega, by rw [HM2.out]; exact HO4.out, by rw [HR2.out]; exact HW4.out, HB4.out⟩
            case measure => simp [intOf]; omega
        · have HM2 : Hid (goods (L.take (k + 1)) = M) := by unfold Hid; rw [HM.out]; unfold okC; rw [hE]; simp [h0]
          have hb0 : ((putErr v n : Int) == 0) = false := by rw [beq_eq_false_iff_ne]; omega
          generalize putErr v n = E at *
          have HP := Lib.hid hC
          clear hC h0 hE hq
          go_wp2
          go_region_with (go_at_call 10; refine HP.out.mono ?_; rintro e w3 ⟨rfl, c3, b3, k3⟩)
          all_goals
            have HW3 := Lib.hid c3
            have HB3 : Hid (Below g w1 w3) := HB.out.trans (Below.trans (b := wr.drew) ⟨rfl, rfl, rfl, Nat.le_refl _, fun _ _ => rfl⟩ b3)
            have HO3 : Hid (OwnA g u4 M w3) := OwnA.oth (w := wr.drew) HO.out (D := D) (T := T) HW.out k3
            clear c3 b3 k3
            go_wp2
            go_roundw
            case rel => exact ⟨k + 1, by go_num, by omega, by rw [HM2.out]; exact HO3.out, by rw [HR2.out]; exact HW3.out, HB3.out⟩
            case measure => simp [intOf]; omega
      · have hd : (d : Int) % 6 = 5 := by omega
        have hq : ¬ isPut (d, v, n) = true := by unfold isPut; simp; omega
        have HR2 : Hid (runW (L.take (k + 1)) = markS D T v) := by unfold Hid; rw [HR.out]; unfold stepW; rw [if_neg hq]
        have hC := Mark_any g g D T v wr HW.out hsz
        have hE : errW (d, v, n) = markErr v := by unfold errW; rw [if_neg hq]
        by_cases h0 : markErr v = 0
        · have HM2 : Hid (goods (L.take (k + 1)) = M ++ [(d, v, n)]) := by unfold Hid; rw [HM.out]; unfold okC; rw [hE, h0]; rfl
          rw [h0] at hC
          have HC := Lib.hid hC
          clear hC h0 hE hq
          go_wp2_with fail
          go_at_call 11
          refine HC.out.mono ?_
          rintro e w3 ⟨rfl, c3, b3, k3⟩
          have HW3 := Lib.hid c3
          have HB3 := Lib.hid (HB.out.trans b3)
          have HO3 := Lib.hid (HO.out.oth HW.out k3)
          obtain ⟨y0, y1, y2⟩ := HX.out w3 HB3.out
          have hs3 := HB3.out.size
          have hgs : g ≤ w3.heap.size := by rw [← HG.out]; exact hs3
          clear c3 b3 k3
          go_wp2_with (at_builtin; refine wpList_appA rfl _ _ rfl g u4 M (d, v, n) rfl rfl HO3.out (by omega) hgs ?_)
          intro v4 w4 o4 b4 k4
          have HO4 := Lib.hid o4
          have HB4 := Lib.hid (HB3.out.trans b4)
          have HW4 := Lib.hid (HW3.out.oth k4)
          clear o4 b4 k4
          go_wp2
          go_roundw
          case rel => exact ⟨k + 1, by go_num, by omega, by rw [HM2.out]; exact HO4.out, by rw [HR2.out]; exact HW4.out, HB4.out⟩
          case measure => simp [intOf]; omega
        · have HM2 : Hid (goods (L.take (k + 1)) = M) := by unfold Hid; rw [HM.out]; unfold okC; rw [hE]; simp [h0]
          have hb0 : ((markErr v : Int) == 0) = false := by rw [beq_eq_false_iff_ne]; omega
          generalize markErr v = E at *
          have HC := Lib.hid hC
          clear hC h0 hE hq
          go_wp2_with fail
          go_at_call 11
          refine HC.out.mono ?_
          rintro e w3 ⟨rfl, c3, b3, k3⟩
          have HW3 := Lib.hid c3
          have HB3 := Lib.hid (HB.out.trans b3)
          have HO3 := Lib.hid (HO.out.oth HW.out k3)
          clear c3 b3 k3
          go_wp2
          go_roundw
          case rel => exact ⟨k + 1, by go_num, by omega, by rw [HM2.out]; exact HO3.out, by rw [HR2.out]; exact HW3.out, HB3.out⟩
          case measure => simp [intOf]; omega
    · obtain rfl : k = L.length := by omega
      have htx := run_text (L.take L.length)
      have hsz := runW_take L L.length hL
      have hok := goods_ok (L.take L.length)
      have hgl := goods_length L L.length hL
      generalize runW (L.take L.length) = S at *
      generalize goods (L.take L.length) = G at *
      obtain ⟨D, T⟩ := S
      simp only at HW hsz htx
      have hlen : (D ++ stuff T).length ≤ 1700000 := by
        have := stuff_length ((T.length + 7) / 8) T (by omega)
        rw [List.length_append]; omega
      have hC := fun W (h : WB g g D T W) => Bytes_bits g g D T W h hsz
      obtain ⟨s, hs⟩ : ∃ s : ByteArray, s = ⟨(D ++ stuff T).toArray⟩ := ⟨_, rfl⟩
      rw [← hs] at hC
      have hsl : s.data.toList = D ++ stuff T := by rw [hs]
      rw [← hsl] at htx hlen
      have hsS : s.size ≤ 1700000 := by rw [Lib.size_eq]; exact hlen
      have hsM : s.size ≤ maxLen := by unfold maxLen; omega
      have hRI : RI s.data.toList 0 [] G := RI.start _ 0 G (Nat.zero_le _) (by rw [List.drop_zero]; exact htx)
      have HSM := Lib.hid hsM
      have HRI := Lib.hid hRI
      have HC := Lib.hid hC
      have HOK := Lib.hid hok
      clear hC htx hs hsl hlen hlt hok hRI hsM
      obtain ⟨p, c, hv⟩ := HO.out.shape
      subst hv
      go_wp2_with fail
      go_at_call 13
      refine (HC.out wr HW.out).mono ?_
      rintro e w3 ⟨rfl, b3⟩
      have HO3 := Lib.hid (HO.out.below b3)
      have HW3 := Lib.hid (HW.out.on b3)
      have HB3 := Lib.hid (HB.out.trans (b3.mono (by rw [← HG.out]; exact HB.out.size)))
      have hs3 : g ≤ w3.heap.size := by rw [← HG.out]; exact HB3.out.size
      clear b3
      go_wp2_with fail
      go_at_call 12
      refine (NewReader_any s 0 HSM.out w3).mono ?_
      rintro e w4 ⟨rfl, c4, b4⟩
      have HO4 := Lib.hid (HO3.out.below b4)
      have HW4 := Lib.hid (HW3.out.on b4)
      have HB4 := Lib.hid (HB3.out.trans (b4.mono hs3))
      have HR4 : Hid (Rd w3.heap.size s 0 [] w4) := by
        have : start s 0 = 0 := by unfold start; simp
        rw [this] at c4
        exact c4
      clear c4 b4
      have hgr : g ≤ w3.heap.size := hs3
      generalize w3.heap.size = r at *
      clear HB HW HO HB3 HW3 HO3
      go_wp2
      go_loopw [8] (fun i wq => ∃ (j a : Nat) (H : List Bool), i = .int .i64 j ∧ j ≤ G.length ∧ RI s.data.toList a H (G.drop j) ∧ Rd r s a H wq ∧ OwnA g (.slice p G.length c) G wq ∧ WB g g D T wq ∧ Below g w1 wq) (fun i _ => G.length - (intOf i).toNat)
      case atStart => exact ⟨0, 0, [], rfl, Nat.zero_le _, HRI.out, HR4.out, HO4.out, HW4.out, HB4.out⟩
      case round =>
        obtain ⟨j, a, H, rfl, hj, hri, hrd, hO, hW, hB⟩ := hrel
        have HRI2 := Lib.hid hri
        have HRD := Lib.hid hrd
        have HO := Lib.hid hO
        have HW := Lib.hid hW
        have HB := Lib.hid hB
        obtain ⟨ha0, hH⟩ := hri.bounds
        have ha : a ≤ s.size := by simpa using ha0
        have hsz1 : g ≤ wr.heap.size := by rw [← HG.out]; exact hB.size
        clear hri hrd hO hW hB ha0
        by_cases hlt : j < G.length
        · have hdr : G.drop j = G[j] :: G.drop (j + 1) := List.drop_eq_getElem_cons hlt
          have hri := HRI2.out
          rw [hdr] at hri
          have heok := HOK.out G[j] (List.getElem_mem hlt)
          obtain ⟨q, rfl, hcell⟩ := HO.out.cell hlt
          have HCELL := Lib.hid hcell
          clear hcell hdr
          generalize hGj : G[j] = x at *
          clear hGj
          obtain ⟨d, v, n⟩ := x
          simp only at HCELL
          obtain ⟨x0, x1, x2⟩ := HCELL.out wr HO.out
          by_cases hp : d % 6 < 5
          · have hq : isPut (d, v, n) = true := by unfold isPut; simp [hp]
            obtain ⟨r1, r2, r3⟩ := hri.put hq heok
            have hd : (d : Int) % 6 < 5 := by omega
            simp only at r1 r2 r3
            have hB := Bits_any r s a H n wr HRD.out HSM.out ha hH
            rw [r1, r2] at hB
            generalize rbits s.data.toList n a H = R at *
            obtain ⟨R1, R2, R3, R4⟩ := R
            simp only at hB r3
            have HBT := Lib.hid hB
            have HR3 := Lib.hid r3
            clear hB r1 r2 r3 hq heok hri
            go_wp2_with fail
            go_at_call 14
            refine HBT.out.mono ?_
            rintro e w5 ⟨rfl, c5, b5⟩
            have HO5 := Lib.hid (HO.out.but HRD.out b5)
            have HW5 := Lib.hid (HW.out.but HRD.out b5)
            have HB5 := Lib.hid (HB.out.trans (b5.below hgr hsz1))
            have HC5 := Lib.hid c5
            obtain ⟨y0, y1, y2⟩ := HCELL.out w5 HO5.out
            clear c5 b5
            go_wp2
            go_roundw
            case rel => exact ⟨j + 1, R2, R3, by go_num, by omega, HR3.out, HC5.out, HO5.out, HW5.out, HB5.out⟩
            case measure => simp [intOf]; omega
          · have hq : ¬ isPut (d, v, n) = true := by unfold isPut; simp; omega
            obtain ⟨r1, r2, r3, r4⟩ := hri.mark hq heok
            have hd : (d : Int) % 6 = 5 := by omega
            simp only at r2 r3
            have hv : ((v.toNat : Nat) : Int) = v := by omega
            have hmk := Marker_any r s a []
            have hsk := Skip_yes r s a []
            rw [r2] at hmk hsk
            simp only at hmk hsk
            have hv0 : (v.toNat != 0) = true := by rw [bne_iff_ne]; omega
            rw [hv, hv0] at hmk
            have HMK := Lib.hid hmk
            have HSK := Lib.hid hsk
            have HR4' := Lib.hid r4
            have hvn : v.toNat ≠ 0 := by omega
            have HV := Lib.hid hvn
            have hval := ones_bne H hH r1
            have HAL := Lib.hid (Align_any r s a H wr HRD.out)
            clear hmk hsk r1 r2 r4 hv hv0 hq heok hri hvn
            go_wp2_with fail
            go_at_call 15
            refine HAL.out.mono ?_
            rintro e w5 ⟨rfl, c5, b5⟩
            have HO5 := Lib.hid (HO.out.but HRD.out b5)
            have HW5 := Lib.hid (HW.out.but HRD.out b5)
            have HB5 := Lib.hid (HB.out.trans (b5.below hgr hsz1))
            have HC5 := Lib.hid c5
            have hsz5 : g ≤ w5.heap.size := by rw [← HG.out]; exact HB5.out.size
            clear c5 b5
            go_wp2_with fail
            go_at_call 16
            refine (HMK.out w5 HC5.out HSM.out ha).mono ?_
            rintro e w6 ⟨rfl, n6, rfl⟩
            have HO6 : Hid (OwnA g (.slice (some ⟨q, 0, none⟩) G.length c) G (w5.drewN n6)) := HO5.out
            obtain ⟨y0, y1, y2⟩ := HCELL.out (w5.drewN n6) HO6.out
            go_wp2_with fail
            go_at_call 17
            refine (HSK.out (w5.drewN n6) HC5.out HSM.out ha HV.out).mono ?_
            rintro e w7 ⟨rfl, c7, b7⟩
            have HO7 := Lib.hid (HO6.out.but (show Rd r s a [] (w5.drewN n6) from HC5.out) b7)
            have HW7 := Lib.hid (WB.but (w := w5.drewN n6) HW5.out (show Rd r s a [] (w5.drewN n6) from HC5.out) b7)
            have HB7 : Hid (Below g w1 w7) := HB5.out.trans (Below.trans (b := w5.drewN n6) (below_drewN _ _ _) (b7.below hgr hsz5))
            have HC7 := Lib.hid c7
            clear c7 b7
            go_wp2
            go_roundw
            case rel => exact ⟨j + 1, a + 2, [], by go_num, by omega, HR4'.out, HC7.out, HO7.out, HW7.out, HB7.out⟩
            case measure => simp [intOf]; omega
        · obtain rfl : j = G.length := by omega
          have hri := HRI2.out
          rw [List.drop_eq_nil_of_le (Nat.le_refl _)] at hri
          obtain ⟨r1, r2, r3⟩ := hri.done
          have hval := ones_beq H hH r1
          have has : a = s.size := by rw [r2]; simp
          have hbt := Bits_any r s a [] 1
          rw [r3] at hbt
          simp only at hbt
          have HBT := Lib.hid hbt
          have HAS := Lib.hid has
          have HAL := Lib.hid (Align_any r s a H wr HRD.out)
          have hH8 : (H.length : Int) < 8 := by omega
          clear hri r1 r2 r3 hbt has hlt
          go_wp2_with fail
          go_at_call 15
          refine HAL.out.mono ?_
          rintro e w5 ⟨rfl, c5, b5⟩
          have HW5 := Lib.hid (HW.out.but HRD.out b5)
          have HB5 := Lib.hid (HB.out.trans (b5.below hgr hsz1))
          have HC5 := Lib.hid c5
          have hsz5 : g ≤ w5.heap.size := by rw [← HG.out]; exact HB5.out.size
          clear c5 b5
          go_wp2_with fail
          go_at_call 14
          refine (HBT.out w5 HC5.out HSM.out ha (by simp)).mono ?_
          rintro e w6 ⟨rfl, c6, b6⟩
          have HW6 := Lib.hid (HW5.out.but HC5.out b6)
          have HB6 := Lib.hid (HB5.out.trans (b6.below hgr hsz5))
          have HC6 := Lib.hid c6
          have hsz6 : g ≤ w6.heap.size := by rw [← HG.out]; exact HB6.out.size
          clear c6 b6
          go_wp2_with fail
          go_at_call 18
          refine (At_any r s a [] w6 HC6.out).mono ?_
          rintro e w7 ⟨rfl, rfl⟩
          go_wp2_with fail
          go_at_call 13
          refine (HC.out w6 HW6.out).mono ?_
          rintro e w7 ⟨rfl, b7⟩
          have HB7 : Hid (Below w.heap.size w w7) := HB1.out.trans ((HB6.out.trans (b7.mono hsz6)).mono hs1)
          have hq : ((a : Int) == (s.size : Int)) = true := by rw [beq_iff_eq, HAS.out]
          clear b7
          go_wp2
          go_ret
          exact ⟨rfl, HB7.out⟩
set_option maxRecDepth 100000 in
set_option maxHeartbeats 1000000 in
theorem back_long (p : Option Addr) (n cap : Nat) (_hn : n ≤ maxLen) (h : 200 < n) (w : World) :
    Calls Try.prog 3 #[.slice p n cap] w fun e w' => e = .returned (.bool true) ∧ Below w.heap.size w w' := by
  have h' : (200 : Int) < (n : Int) := by omega
  unfold maxLen at _hn
  go_enter Try.func3, Try.ntmps3
  go_wp2_with fail
  go_at_call 8
  refine (awake_any w).mono ?_
  rintro e w1 ⟨rfl, b1⟩
  have HB1 := Lib.hid b1
  clear b1
  go_wp2_with fail
  go_at_call 8
  refine (awake_any w1).mono ?_
  rintro e w2 ⟨rfl, b2⟩
  have HB2 := Lib.hid (HB1.out.trans (b2.mono HB1.out.size))
  clear b2
  go_wp2
  go_ret
  exact ⟨rfl, HB2.out⟩
theorem BitsBack_any (p : Option Addr) (cap : Nat) (L : List Call3) (w : World) (hn : L.length ≤ maxLen) (h256 : ∀ x ∈ L, x.1 < 256) (hc : Acts p L w) :
    Calls Try.prog 3 #[.slice p L.length cap] w fun e w' => e = .returned (.bool true) ∧ Below w.heap.size w w' := by
  by_cases h : 200 < L.length
  · exact back_long p L.length cap hn h w
  · exact back_one p cap L w (by omega) h256 hc
end Go.Proofs.Ytialkpfjllhfkaa
