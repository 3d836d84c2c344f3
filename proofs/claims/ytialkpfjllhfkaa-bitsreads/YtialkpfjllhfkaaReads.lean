/- A walk: every call of a reader of any bytes, in every order, answers what the document says. -/
import Derived.Test.YtialkpfjllhfkaaRefBits
import Derived.Deep.DeepCutAuto
namespace Go.Proofs.Ytialkpfjllhfkaa
open Go.RowKit

theorem box_new (s : ByteArray) (a : Nat) (x : Int) (hx : x = a) (hv : Value) (w : World) : Box w.heap.size s a hv (w.alloc (.cells #[.string s, .int .i64 x, hv] 45)) := by
  subst hx
  exact heap_alloc_new _ _
theorem start_neg (s : ByteArray) (z : Int) (h : z < 0) : (0 : Int) = (start s z : Nat) := by unfold start; rw [if_pos h]; rfl
theorem start_big (s : ByteArray) (z : Int) (h : (s.size : Int) < z) : (s.size : Int) = (start s z : Nat) := by unfold start; rw [if_neg (by omega)]; omega
theorem start_mid (s : ByteArray) (z : Int) (h0 : 0 ≤ z) (h : z ≤ s.size) : z = (start s z : Nat) := by unfold start; rw [if_neg (by omega)]; omega

/-- Behind the document's Bits: its new reader in a block of its own. -/
theorem reads_end1 {g gm : Nat} {s : ByteArray} {a a' : Nat} {H' : List Bool} {hv : Value} {p' : Option Addr} {c' : Nat} {w1 w4 w5 : World} (hgm : gm < w4.heap.size) (hg : g ≤ w4.heap.size) (hr : Rd g s a' H' w4) (hx : Box gm s a hv w4) (hb : Below g w1 w4)
    (b5 : Below w4.heap.size w4 w5) (v5 : View (.slice p' H'.length c') H' w5) :
    gm < w5.heap.size ∧ Rd g s a' H' (w5.alloc (.cells #[.string s, .int .i64 a', .slice p' H'.length c'] 45)) ∧ Box gm s a hv (w5.alloc (.cells #[.string s, .int .i64 a', .slice p' H'.length c'] 45)) ∧ Box w5.heap.size s a' (.slice p' H'.length c') (w5.alloc (.cells #[.string s, .int .i64 a', .slice p' H'.length c'] 45)) ∧
      View (.slice p' H'.length c') H' (w5.alloc (.cells #[.string s, .int .i64 a', .slice p' H'.length c'] 45)) ∧ Below g w1 (w5.alloc (.cells #[.string s, .int .i64 a', .slice p' H'.length c'] 45)) := by
  have hsz := b5.size
  have ha : Below w5.heap.size w5 (w5.alloc (.cells #[.string s, .int .i64 a', .slice p' H'.length c'] 45)) := (Below.refl _ _).alloc (Nat.le_refl _) _
  exact ⟨by omega, (hr.on b5).on ha, (hx.on b5).on ha, heap_alloc_new _ _, v5.on ha, (hb.trans (b5.mono hg)).trans (ha.mono (by omega))⟩
theorem reads_end2 {g gm : Nat} {s : ByteArray} {a a' : Nat} {H' : List Bool} {hv : Value} {p' : Option Addr} {c' : Nat} {w1 w4 w5 : World} {o : Obj} (hgm : gm < w4.heap.size) (hg : g ≤ w4.heap.size) (hr : Rd g s a' H' w4) (hx : Box gm s a hv w4) (hb : Below g w1 w4)
    (b5 : Below (w4.alloc o).heap.size (w4.alloc o) w5) (hk : Box w4.heap.size ⟨#[]⟩ 0 (.slice none 0 0) w5) (v5 : View (.slice p' H'.length c') H' w5) :
    Rd g s a' H' (((w5.setCell ⟨w4.heap.size, 0, none⟩ (.string s)).setCell ⟨w4.heap.size, 1, none⟩ (.int .i64 a')).setCell ⟨w4.heap.size, 2, none⟩ (.slice p' H'.length c')) ∧
      Box gm s a hv (((w5.setCell ⟨w4.heap.size, 0, none⟩ (.string s)).setCell ⟨w4.heap.size, 1, none⟩ (.int .i64 a')).setCell ⟨w4.heap.size, 2, none⟩ (.slice p' H'.length c')) ∧
      Box w4.heap.size s a' (.slice p' H'.length c') (((w5.setCell ⟨w4.heap.size, 0, none⟩ (.string s)).setCell ⟨w4.heap.size, 1, none⟩ (.int .i64 a')).setCell ⟨w4.heap.size, 2, none⟩ (.slice p' H'.length c')) ∧
      View (.slice p' H'.length c') H' (((w5.setCell ⟨w4.heap.size, 0, none⟩ (.string s)).setCell ⟨w4.heap.size, 1, none⟩ (.int .i64 a')).setCell ⟨w4.heap.size, 2, none⟩ (.slice p' H'.length c')) ∧
      Below g w1 (((w5.setCell ⟨w4.heap.size, 0, none⟩ (.string s)).setCell ⟨w4.heap.size, 1, none⟩ (.int .i64 a')).setCell ⟨w4.heap.size, 2, none⟩ (.slice p' H'.length c')) := by
  have ha : Below w4.heap.size w4 (w4.alloc o) := (Below.refl _ _).alloc (Nat.le_refl _) _
  have h45 : Below w4.heap.size w4 w5 := ha.trans (b5.mono ha.size)
  have hbt : But w4.heap.size w5 (((w5.setCell ⟨w4.heap.size, 0, none⟩ (.string s)).setCell ⟨w4.heap.size, 1, none⟩ (.int .i64 a')).setCell ⟨w4.heap.size, 2, none⟩ (.slice p' H'.length c')) := but_set3 _ _ _
  have hlt := hr.lt
  exact ⟨(hr.on h45).but hbt (by omega), (hx.on h45).but hbt (by omega), hk.set s a' a' rfl _, v5.but hbt hk (by decide), below_set3 (hb.trans (h45.mono hg)) hg _ _ _⟩

set_option maxRecDepth 100000 in
set_option maxHeartbeats 8000000 in
theorem reads_one (s : ByteArray) (z : Int) (p0 : Option Addr) (cap : Nat) (L : List (Nat × Int × Int)) (w : World) (hs : s.size ≤ 4000) (hL : L.length ≤ 200) (hc : Acts p0 L w) :
    Calls Try.prog 4 #[.string s, .int .i64 z, .slice p0 L.length cap] w fun e w' => e = .returned (.bool true) ∧ Below w.heap.size w w' := by
  have HC0 := Lib.hid hc
  clear hc
  have hsI : ¬ (4000 : Int) < (s.size : Int) := by omega
  have hLI : ¬ (200 : Int) < (L.length : Int) := by omega
  have HST := Lib.hid (start_le s z)
  go_enter Try.func4, Try.ntmps4
  go_wp2_with fail
  go_at_call 8
  refine (awake_any w).mono ?_
  rintro e w1 ⟨rfl, b1⟩
  have HB1 := Lib.hid b1
  have HC1 := Lib.hid (HC0.out.on b1)
  have hs1 := b1.size
  clear b1
  go_wp2_with fail
  go_at_call 12
  refine (NewReader_any s z (by unfold maxLen; omega) w1).mono ?_
  rintro e w2 ⟨rfl, c2, b2⟩
  have HR2 := Lib.hid c2
  have HB2 := Lib.hid b2
  clear c2 b2
  generalize hg : w1.heap.size = g at *
  have HG := Lib.hid hg
  clear hg
  have hgm : g < w2.heap.size := HR2.out.lt
  have hgs : g ≤ w2.heap.size := Nat.le_of_lt hgm
  go_upto_region 4 with fail
  go_cut [8] from 23 (fun v8 wx => v8 = .pointer (some ⟨w2.heap.size, 0, none⟩) ∧ Rd g s (start s z) [] wx ∧ Box w2.heap.size s (start s z) (.slice none 0 0) wx ∧ Below g w1 wx)
  case first =>
    go_wp2_with fail
    all_goals
      go_meet
      exact ⟨rfl, HR2.out.on ((Below.refl _ _).alloc (Nat.le_refl _) _), box_new s _ _ (by first | exact start_neg s z (by omega) | exact start_big s z (by omega) | exact start_mid s z (by omega) (by omega)) _ w2, HB2.out.alloc hgs _⟩
  case rest =>
  obtain ⟨rfl, r3, x3, b3⟩ := hcut
  have HR3 := Lib.hid r3
  have HX3 := Lib.hid x3
  have HB3 := Lib.hid b3
  clear r3 x3 b3 HR2 HB2 hgs
  generalize w2.heap.size = gm at *
  go_wp2
  go_loopg [9] L.length (fun gk i wx => ∃ (k a : Nat) (H : List Bool) (p : Option Addr) (c : Nat), gk = L.length - k ∧ i = .int .i64 k ∧ k ≤ L.length ∧ a ≤ s.size ∧ H.length < 8 ∧ Rd g s a H wx ∧ Box gm s a (.slice p H.length c) wx ∧ View (.slice p H.length c) H wx ∧ Below g w1 wx)
  case atStart => exact ⟨0, start s z, [], none, 0, rfl, rfl, Nat.zero_le _, HST.out, by simp, HR3.out, HX3.out, ⟨none, 0, rfl, .inl ⟨rfl, rfl, rfl⟩⟩, HB3.out⟩
  case round =>
    obtain ⟨k, a, H, p, c, rfl, rfl, hk, ha, hH, hR, hX, hV, hB⟩ := hrel
    have HR := Lib.hid hR
    have HX := Lib.hid hX
    have HV := Lib.hid hV
    have HB := Lib.hid hB
    have hBs : g ≤ wr.heap.size := by rw [← HG.out]; exact hB.size
    clear hR hX hV hB HR3 HX3 HB3
    by_cases hlt : k < L.length
    · obtain ⟨b, o, rfl, hb, hcell⟩ := HC1.out.resolve_left (fun h => by rw [h] at hlt; exact absurd hlt (Nat.not_lt_zero _))
      have hcell' := hcell k hlt
      have hb' : b < g := by rw [← HG.out]; exact hb
      clear hcell
      generalize L[k] = x at *
      obtain ⟨d, v, n⟩ := x
      simp only at hcell'
      have HC : Hid (∀ W, Below g w1 W → W.cell? ⟨b, o + k * 3, none⟩ = some (.int .u8 (d : Nat)) ∧ W.cell? ⟨b, o + k * 3 + 1, none⟩ = some (.int .i64 v) ∧ W.cell? ⟨b, o + k * 3 + 2, none⟩ = some (.int .i64 n)) := by
        intro W hW
        rw [hW.cell hb', hW.cell hb', hW.cell hb']
        exact hcell'
      clear hcell'
      obtain ⟨x0, x1, x2⟩ := HC.out wr HB.out
      by_cases h4 : d % 6 < 4
      · go_upto_if 58 with fail
        go_cut [58] from 46 to 152 (fun v58 wx => v58 = .bool true ∧ wx = wr)
        case first =>
          rcases (by omega : (d : Int) % 6 = 0 ∨ (d : Int) % 6 = 1 ∨ (d : Int) % 6 = 2 ∨ (d : Int) % 6 = 3) with h6 | h6 | h6 | h6
          all_goals
            go_wp2_with fail
            go_meet
            exact ⟨by first | rfl | (rw [h6]; rfl), rfl⟩
        case rest =>
          obtain ⟨rfl, hwc⟩ := hcut
          subst hwc
          have hbd := rbits_bounds s.data.toList n a H (by simpa using ha) hH
          have hT := Bits_any g s a H n wc HR.out (by unfold maxLen; omega) ha hH
          have hRf := fun W (hv : View (.slice p H.length c) H W) => rBits_any s a p c H n W hv hs ha hH
          generalize rbits s.data.toList n a H = R at *
          obtain ⟨R1, a', H', R4⟩ := R
          simp only at hbd hT hRf
          have HT := Lib.hid hT
          have HRF := Lib.hid hRf
          have ha' : a' ≤ s.size := by simpa using hbd.1
          have hH' := hbd.2
          clear hT hRf hbd
          go_wp2_with fail
          go_at_call 14
          refine HT.out.mono ?_
          rintro e w4 ⟨rfl, c4, b4⟩
          have HR4 := Lib.hid c4
          have HX4 := Lib.hid (HX.out.but b4 (by omega))
          have HV4 := Lib.hid (HV.out.but b4 HR.out (by decide))
          have HB4 := Lib.hid (HB.out.trans (b4.below (Nat.le_refl _) hBs))
          obtain ⟨y0, y1, y2⟩ := HC.out w4 HB4.out
          have m0 := HX4.out.text
          have m1 := HX4.out.at
          have m2 := HX4.out.held
          have hl4 := HX4.out.lt
          have hbw4 : b < w4.heap.size := by omega
          have hgs4 : g ≤ w4.heap.size := by rw [← HG.out]; exact HB4.out.size
          clear c4 b4 x0 x1 x2 y0 y1
          go_upto_region 14 with fail
          go_cut [12, 13, 14] from 46 to 152 (fun v12 v13 v14 wx => ∃ (kk : Nat) (p' : Option Addr) (c' : Nat), v12 = .int .i64 R1 ∧ v13 = .pointer (some ⟨kk, 0, none⟩) ∧ v14 = .int .i64 R4 ∧ gm < kk ∧ Rd g s a' H' wx ∧ Box gm s a (.slice p H.length c) wx ∧ Box kk s a' (.slice p' H'.length c') wx ∧ View (.slice p' H'.length c') H' wx ∧ Below g w1 wx)
          case first =>
            have HV4b : Hid (View (.slice p H.length c) H (w4.alloc (.cells #[.string ⟨#[]⟩, .int .i64 0, .slice none 0 0] 45))) := HV4.out.on ((Below.refl _ _).alloc (Nat.le_refl _) _)
            have HK4b : Hid (Box w4.heap.size ⟨#[]⟩ 0 (.slice none 0 0) (w4.alloc (.cells #[.string ⟨#[]⟩, .int .i64 0, .slice none 0 0] 45))) := heap_alloc_new _ _
            clear HR HX HV HB HC HT
            go_region_with (first
              | (go_at_call 19; refine (HRF.out w4.drew HV4.out).mono ?_; rintro e w5 ⟨p', c', rfl, v5, b5⟩)
              | (go_at_call 19; refine (HRF.out (w4.alloc (.cells #[.string ⟨#[]⟩, .int .i64 0, .slice none 0 0] 45)).drew HV4b.out).mono ?_; rintro e w5 ⟨p', c', rfl, v5, b5⟩; have hk5 : Box w4.heap.size ⟨#[]⟩ 0 (.slice none 0 0) w5 := Box.on (w := (w4.alloc (.cells #[.string ⟨#[]⟩, .int .i64 0, .slice none 0 0] 45)).drew) HK4b.out b5; have k0 := hk5.text; have k1 := hk5.at; have k2 := hk5.held; have kf0 := hk5.free 0; have kf1 := hk5.free 1; have kf2 := hk5.free 2))
            all_goals
              go_wp2_with fail
              go_meet
              first
                | (have h5 := reads_end1 hl4 hgs4 HR4.out HX4.out HB4.out (show Below w4.heap.size w4 w5 from ⟨b5.os, b5.tape, b5.output, b5.size, b5.block⟩) v5
                   exact ⟨w5.heap.size, p', c', rfl, rfl, rfl, h5.1, h5.2⟩)
                | (have h5 := reads_end2 (o := .cells #[.string ⟨#[]⟩, .int .i64 0, .slice none 0 0] 45) hl4 hgs4 HR4.out HX4.out HB4.out (show Below (w4.alloc (.cells #[.string ⟨#[]⟩, .int .i64 0, .slice none 0 0] 45)).heap.size (w4.alloc (.cells #[.string ⟨#[]⟩, .int .i64 0, .slice none 0 0] 45)) w5 from ⟨b5.os, b5.tape, b5.output, b5.size, b5.block⟩) hk5 v5
                   exact ⟨w4.heap.size, p', c', rfl, rfl, rfl, hl4, h5⟩)
          case rest =>
            obtain ⟨kk, p', c', rfl, rfl, rfl, hkk, r5, x5, k5, v5, b5⟩ := hcut
            have HR5 := Lib.hid r5
            have HX5 := Lib.hid x5
            have HK5 := Lib.hid k5
            have HV5 := Lib.hid v5
            have HB5 := Lib.hid b5
            have n0 := x5.text
            have n1 := x5.at
            have n2 := x5.held
            have f0 := x5.free 0
            have f1 := x5.free 1
            have f2 := x5.free 2
            have k0 := k5.text
            have k1 := k5.at
            have k2 := k5.held
            clear r5 x5 k5 v5 b5 m0 m1 m2 HR4 HX4 HV4 HB4 hl4 hbw4 hgs4
            go_wp2_with fail
            have hbt : But gm wc (((wc.setCell ⟨gm, 0, none⟩ (.string s)).setCell ⟨gm, 1, none⟩ (.int .i64 a')).setCell ⟨gm, 2, none⟩ (.slice p' H'.length c')) := but_set3 _ _ _
            have hx6 := HX5.out.set s a' a' rfl (.slice p' H'.length c')
            have hr6 := HR5.out.but hbt (Nat.ne_of_lt hgm)
            have hv6 := HV5.out.but hbt HX5.out (by decide)
            have hb6 := below_set3 HB5.out (Nat.le_of_lt hgm) (.string s) (.int .i64 a') (.slice p' H'.length c')
            clear hbt
            generalize ((wc.setCell ⟨gm, 0, none⟩ (.string s)).setCell ⟨gm, 1, none⟩ (.int .i64 a')).setCell ⟨gm, 2, none⟩ (.slice p' H'.length c') = w6 at hx6 hr6 hv6 hb6 ⊢
            have HX6 := Lib.hid hx6
            have HR6 := Lib.hid hr6
            have HV6 := Lib.hid hv6
            have HB6 := Lib.hid hb6
            have j1 := hx6.at
            clear hx6 hr6 hv6 hb6 n0 n1 n2 f0 f1 f2 k0 k1 k2
            go_quiet ((go_at_call 18; exact Calls.quiet_of_same ((At_any g s a' H' _ (by exact HR6.out)).mono fun e w' h => ⟨h.1, h.2.symm⟩)))
            go_wp2
            go_roundg (L.length - (k + 1))
            case measure => omega
            case rel => exact ⟨k + 1, a', H', p', c', rfl, by go_num, by omega, ha', hH', HR6.out, HX6.out, HV6.out, HB6.out.trans (below_drewN _ _ _)⟩
      · by_cases h5 : d % 6 = 4
        · have h6 : (d : Int) % 6 = 4 := by omega
          have HAL := Lib.hid (Align_any g s a H wr HR.out)
          have HRE := Lib.hid (fun W hv => Rest_any s a p c H W hv hH)
          clear h4 h5
          go_wp2_with fail
          go_at_call 15
          refine HAL.out.mono ?_
          rintro e w4 ⟨rfl, c4, b4⟩
          have HR4 := Lib.hid c4
          have HX4 := Lib.hid (HX.out.but b4 (by omega))
          have HV4 := Lib.hid (HV.out.but b4 HR.out (by decide))
          have HB4 := Lib.hid (HB.out.trans (b4.below (Nat.le_refl _) hBs))
          have hgs4 : g ≤ w4.heap.size := by rw [← HG.out]; exact HB4.out.size
          have m0 := HX4.out.text
          have m1 := HX4.out.at
          have m2 := HX4.out.held
          clear c4 b4 x0 x1 x2
          go_wp2_with fail
          go_at_call 20
          refine (HRE.out w4 HV4.out).mono ?_
          rintro e w5 ⟨rfl, b5⟩
          have HR5 := Lib.hid (HR4.out.on b5)
          have HX5 := Lib.hid (HX4.out.on b5)
          have HB5 := Lib.hid (HB4.out.trans (b5.mono hgs4))
          have n2 := HX5.out.held
          have f2 := HX5.out.free 2
          clear b5 m0 m1 m2
          go_wp2_with fail
          have hx6 := HX5.out.setHeld (.slice none 0 0)
          have hbt : But gm w5 (w5.setCell ⟨gm, 2, none⟩ (.slice none 0 0)) := (But.refl _ _).setCell 2 _
          have hr6 := HR5.out.but hbt (Nat.ne_of_lt hgm)
          have hb6 : Below g w1 (w5.setCell ⟨gm, 2, none⟩ (.slice none 0 0)) := HB5.out.setCell (p := ⟨gm, 2, none⟩) (Nat.le_of_lt hgm) _
          clear hbt
          generalize w5.setCell ⟨gm, 2, none⟩ (.slice none 0 0) = w6 at hx6 hr6 hb6 ⊢
          have HX6 := Lib.hid hx6
          have HR6 := Lib.hid hr6
          have HB6 := Lib.hid hb6
          have j1 := hx6.at
          clear hx6 hr6 hb6 n2 f2
          go_quiet ((go_at_call 18; exact Calls.quiet_of_same ((At_any g s a [] _ (by exact HR6.out)).mono fun e w' h => ⟨h.1, h.2.symm⟩)))
          go_wp2
          go_roundg (L.length - (k + 1))
          case measure => omega
          case rel => exact ⟨k + 1, a, [], none, 0, rfl, by go_num, by omega, ha, by simp, HR6.out, HX6.out, ⟨none, 0, rfl, .inl ⟨rfl, rfl, rfl⟩⟩, HB6.out.trans (below_drewN _ _ _)⟩
        · have h6 : (d : Int) % 6 = 5 := by omega
          have hsM : s.size ≤ maxLen := by unfold maxLen; omega
          have hMK := Marker_any g s a H wr HR.out hsM ha
          have hRM := fun W hv => rMarker_any s a hv hs ha W
          have hor := mark_or s.data.toList a
          by_cases hm0 : (mark s.data.toList a).1 = 0
          · have hm : mark s.data.toList a = (0, 0) := by
              rcases hor with h | h
              · exact h
              · omega
            have HSK := Lib.hid (fun W hW => Skip_no g s a H W hW hsM ha hm0)
            rw [hm] at hMK hRM
            have HMK := Lib.hid hMK
            have HRM := Lib.hid hRM
            clear hMK hRM hor hm0 hm h4 h5 hsM
            go_wp2_with fail
            go_at_call 16
            refine HMK.out.mono ?_
            rintro e w4 ⟨rfl, n4, hw4⟩
            have HR4 : Hid (Rd g s a H w4) := by rw [hw4]; exact HR.out
            have HX4 : Hid (Box gm s a (.slice p H.length c) w4) := by rw [hw4]; exact HX.out
            have HV4 : Hid (View (.slice p H.length c) H w4) := by rw [hw4]; exact HV.out
            have HB4 : Hid (Below g w1 w4) := by rw [hw4]; exact HB.out.trans (below_drewN _ _ _)
            have hgs4 : g ≤ w4.heap.size := by rw [← HG.out]; exact HB4.out.size
            have m0 := HX4.out.text
            have m1 := HX4.out.at
            have m2 := HX4.out.held
            clear hw4 x0 x1 x2
            go_wp2_with fail
            go_at_call 21
            refine (HRM.out w4 _).mono ?_
            rintro e w5 ⟨rfl, b5⟩
            have HR5 := Lib.hid (HR4.out.on b5)
            have HX5 := Lib.hid (HX4.out.on b5)
            have HV5 := Lib.hid (HV4.out.on b5)
            have HB5 := Lib.hid (HB4.out.trans (b5.mono hgs4))
            clear b5 m0 m1 m2
            go_wp2_with fail
            go_at_call 17
            refine (HSK.out w5 HR5.out).mono ?_
            rintro e w6 ⟨rfl, n6, hw6⟩
            have HR6 : Hid (Rd g s a H w6) := by rw [hw6]; exact HR5.out
            have HX6 : Hid (Box gm s a (.slice p H.length c) w6) := by rw [hw6]; exact HX5.out
            have HV6 : Hid (View (.slice p H.length c) H w6) := by rw [hw6]; exact HV5.out
            have HB6 : Hid (Below g w1 w6) := by rw [hw6]; exact HB5.out.trans (below_drewN _ _ _)
            have j1 := HX6.out.at
            clear hw6
            go_wp2_with fail
            go_quiet ((go_at_call 18; exact Calls.quiet_of_same ((At_any g s a H _ (by exact HR6.out)).mono fun e w' h => ⟨h.1, h.2.symm⟩)))
            go_wp2
            go_roundg (L.length - (k + 1))
            case measure => omega
            case rel => exact ⟨k + 1, a, H, p, c, rfl, by go_num, by omega, ha, hH, HR6.out, HX6.out, HV6.out, HB6.out.trans (below_drewN _ _ _)⟩
          · have hm : 1 ≤ (mark s.data.toList a).1 ∧ (mark s.data.toList a).1 ≤ 255 ∧ 1 ≤ (mark s.data.toList a).2 ∧ a + (mark s.data.toList a).2 ≤ s.data.toList.length := by
              rcases hor with h | h
              · rw [h] at hm0; exact absurd rfl hm0
              · exact h
            have HSK := Lib.hid (fun W hW => Skip_yes g s a H W hW hsM ha hm0)
            have hb1 : ((mark s.data.toList a).1 != 0) = true := by rw [bne_iff_ne]; exact hm0
            rw [hb1] at hMK
            generalize mark s.data.toList a = MM at *
            obtain ⟨M1, M2⟩ := MM
            simp only at hMK hRM HSK hm
            have HMK := Lib.hid hMK
            have HRM := Lib.hid hRM
            obtain ⟨hm1, _, hm2, hm3⟩ := hm
            have hm3' : a + M2 ≤ s.size := by simpa using hm3
            have hM2 : decide (0 < (M2 : Int)) = true := decide_eq_true (by omega)
            clear hMK hRM hor hm0 hb1 h4 h5 hsM hm3
            go_wp2_with fail
            go_at_call 16
            refine HMK.out.mono ?_
            rintro e w4 ⟨rfl, n4, hw4⟩
            have HR4 : Hid (Rd g s a H w4) := by rw [hw4]; exact HR.out
            have HX4 : Hid (Box gm s a (.slice p H.length c) w4) := by rw [hw4]; exact HX.out
            have HB4 : Hid (Below g w1 w4) := by rw [hw4]; exact HB.out.trans (below_drewN _ _ _)
            have hgs4 : g ≤ w4.heap.size := by rw [← HG.out]; exact HB4.out.size
            have m0 := HX4.out.text
            have m1 := HX4.out.at
            have m2 := HX4.out.held
            clear hw4 x0 x1 x2
            go_wp2_with fail
            go_at_call 21
            refine (HRM.out w4 _).mono ?_
            rintro e w5 ⟨rfl, b5⟩
            have HR5 := Lib.hid (HR4.out.on b5)
            have HX5 := Lib.hid (HX4.out.on b5)
            have HB5 := Lib.hid (HB4.out.trans (b5.mono hgs4))
            have hgs5 : g ≤ w5.heap.size := by rw [← HG.out]; exact HB5.out.size
            clear b5 m0 m1 m2
            go_wp2_with fail
            go_at_call 17
            refine (HSK.out w5 HR5.out).mono ?_
            rintro e w6 ⟨rfl, c6, b6⟩
            have HR6 := Lib.hid c6
            have HX6 := Lib.hid (HX5.out.but b6 (by omega))
            have HB6 := Lib.hid (HB5.out.trans (b6.below (Nat.le_refl _) hgs5))
            have n1 := HX6.out.at
            have n2 := HX6.out.held
            have f1 := HX6.out.free 1
            have f2 := HX6.out.free 2
            clear c6 b6
            go_wp2_with fail
            have hx7 := HX6.out.setBoth (a + M2) ((a : Int) + (M2 : Int)) (by omega) (.slice none 0 0)
            have hbt : But gm w6 ((w6.setCell ⟨gm, 2, none⟩ (.slice none 0 0)).setCell ⟨gm, 1, none⟩ (.int .i64 ((a : Int) + (M2 : Int)))) := ((But.refl _ _).setCell 2 _).setCell 1 _
            have hr7 := HR6.out.but hbt (Nat.ne_of_lt hgm)
            have hb7 : Below g w1 ((w6.setCell ⟨gm, 2, none⟩ (.slice none 0 0)).setCell ⟨gm, 1, none⟩ (.int .i64 ((a : Int) + (M2 : Int)))) := (HB6.out.setCell (p := ⟨gm, 2, none⟩) (Nat.le_of_lt hgm) _).setCell (p := ⟨gm, 1, none⟩) (Nat.le_of_lt hgm) _
            clear hbt
            generalize (w6.setCell ⟨gm, 2, none⟩ (.slice none 0 0)).setCell ⟨gm, 1, none⟩ (.int .i64 ((a : Int) + (M2 : Int))) = w7 at hx7 hr7 hb7 ⊢
            have HX7 := Lib.hid hx7
            have HR7 := Lib.hid hr7
            have HB7 := Lib.hid hb7
            have j1 := hx7.at
            clear hx7 hr7 hb7 n1 n2 f1 f2
            go_quiet ((go_at_call 18; exact Calls.quiet_of_same ((At_any g s (a + M2) [] _ (by exact HR7.out)).mono fun e w' h => ⟨h.1, h.2.symm⟩)))
            go_wp2
            go_roundg (L.length - (k + 1))
            case measure => omega
            case rel => exact ⟨k + 1, a + M2, [], none, 0, rfl, by go_num, by omega, hm3', by simp, HR7.out, HX7.out, ⟨none, 0, rfl, .inl ⟨rfl, rfl, rfl⟩⟩, HB7.out.trans (below_drewN _ _ _)⟩
    · go_wp2
      go_ret
      exact ⟨rfl, HB1.out.trans (HB.out.mono hs1)⟩
set_option maxRecDepth 100000 in
set_option maxHeartbeats 1000000 in
theorem reads_long (s : ByteArray) (z : Int) (p : Option Addr) (n cap : Nat) (hs : s.size ≤ maxLen) (hn : n ≤ maxLen) (h : 4000 < s.size ∨ 200 < n) (w : World) :
    Calls Try.prog 4 #[.string s, .int .i64 z, .slice p n cap] w fun e w' => e = .returned (.bool true) ∧ Below w.heap.size w w' := by
  unfold maxLen at hs hn
  by_cases h1 : 4000 < (s.size : Int)
  · clear h
    go_enter Try.func4, Try.ntmps4
    go_wp2_with fail
    go_at_call 8
    refine (awake_any w).mono ?_
    rintro e w1 ⟨rfl, b1⟩
    have HB1 := Lib.hid b1
    clear b1
    go_wp2_with fail
    go_at_call 8
    refine (awake_any w1).mono ?_
    rintro e w2 ⟨rfl, b2⟩
    have HB2 := Lib.hid (HB1.out.trans (b2.mono HB1.out.size))
    clear b2
    go_wp2
    go_ret
    exact ⟨rfl, HB2.out⟩
  · have h2 : (200 : Int) < (n : Int) := by omega
    clear h
    go_enter Try.func4, Try.ntmps4
    go_wp2_with fail
    go_at_call 8
    refine (awake_any w).mono ?_
    rintro e w1 ⟨rfl, b1⟩
    have HB1 := Lib.hid b1
    clear b1
    go_wp2_with fail
    go_at_call 8
    refine (awake_any w1).mono ?_
    rintro e w2 ⟨rfl, b2⟩
    have HB2 := Lib.hid (HB1.out.trans (b2.mono HB1.out.size))
    clear b2
    go_wp2
    go_ret
    exact ⟨rfl, HB2.out⟩
theorem BitsReads_any (s : ByteArray) (z : Int) (p : Option Addr) (cap : Nat) (L : List (Nat × Int × Int)) (w : World) (hs : s.size ≤ maxLen) (hn : L.length ≤ maxLen) (hc : Acts p L w) :
    Calls Try.prog 4 #[.string s, .int .i64 z, .slice p L.length cap] w fun e w' => e = .returned (.bool true) ∧ Below w.heap.size w w' := by
  by_cases h : 4000 < s.size ∨ 200 < L.length
  · exact reads_long s z p L.length cap hs hn h w
  · exact reads_one s z p cap L w (by omega) (by omega) hc
end Go.Proofs.Ytialkpfjllhfkaa
