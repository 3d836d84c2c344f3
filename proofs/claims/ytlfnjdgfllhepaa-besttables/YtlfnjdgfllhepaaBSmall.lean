/- The program's allowed, greatest and shorten. -/
import Derived.Test.YtlfnjdgfllhepaaBLens
namespace Go.Proofs.Ytlfnjdgfllhepaa
open Go.RowKit

/-- Each symbol may come so often. -/
def Okf (fi : Nat → Int) : Prop := ∀ i, i < 256 → 0 ≤ fi i ∧ fi i ≤ 1099511627776

set_option maxHeartbeats 1000000 in
set_option maxRecDepth 100000 in
theorem allowed_any (fi : Nat → Int) (R : Bool) (hR : R = true ↔ Okf fi) (w : World) :
    Calls Try.prog 17 #[.agg (ints 256 fi)] w fun e w' => e = .returned (.bool R) ∧ Below w.heap.size w w' := by
  obtain ⟨wb, hwb⟩ : ∃ wb, wb = w.alloc (.cells (ints 256 fi) 22) := ⟨_, rfl⟩
  have R0 : Hid (RowN 22 256 w.heap.size fi wb) := by rw [hwb]; exact RowN.new rfl
  have R1 : Hid (Below w.heap.size w wb) := by rw [hwb]; exact (Below.refl _ _).alloc (Nat.le_refl _) _
  have HR := Lib.hid hR
  clear hR
  go_enter Try.func17, Try.ntmps17
  go_wp2
  rw [← hwb]
  clear hwb
  go_loop [4] (fun i => ∃ n : Nat, n ≤ 256 ∧ i = .int .i64 n ∧ ∀ j, j < n → 0 ≤ fi j ∧ fi j ≤ 1099511627776) (fun i => 256 - (intOf i).toNat)
  case atStart => exact ⟨0, by omega, rfl, fun j hj => by omega⟩
  case round =>
    obtain ⟨n, hn, rfl, h1⟩ := hrel
    have H1 := Lib.hid h1
    clear h1
    by_cases hlt : n < 256
    · have x0 := R0.out.cell (i := n) (by omega)
      by_cases ha : fi n < 0
      · have e0 : Hid (R = false) := by
          cases h : R with
          | false => rfl
          | true => have := (HR.out.1 h) n hlt; omega
        go_wp2
        go_ret
        exact ⟨by rw [e0.out]; rfl, R1.out⟩
      · by_cases hb : fi n > 1099511627776
        · have e0 : Hid (R = false) := by
            cases h : R with
            | false => rfl
            | true => have := (HR.out.1 h) n hlt; omega
          go_wp2
          go_ret
          exact ⟨by rw [e0.out]; rfl, R1.out⟩
        · go_wp2
          go_round
          case rel => exact ⟨n + 1, by omega, by go_num, fun j hj => by
            by_cases e : j = n
            · subst e; omega
            · exact H1.out j (by omega)⟩
          case measure => simp [intOf]; omega
    · obtain rfl : n = 256 := by omega
      have e0 : Hid (R = true) := HR.out.2 H1.out
      clear hlt
      go_wp2
      go_ret
      exact ⟨by rw [e0.out]; rfl, R1.out⟩

set_option maxHeartbeats 1000000 in
set_option maxRecDepth 100000 in
theorem greatest_any (k : Nat) (m : Nat → Nat) (n : Nat) (hn : n ≤ 256) (G : Nat) (hG : G = great m n) (w : World) (hw : RowN 47 257 k (fun i => (m i : Int)) w) :
    Calls Try.prog 30 #[.pointer (some ⟨k, 0, none⟩), .int .i64 n] w fun e w' => e = .returned (.int .i64 G) ∧ w = w' := by
  have HW := Lib.hid hw
  have HG := Lib.hid hG
  clear hw hG
  go_enter Try.func30, Try.ntmps30
  go_wp2
  go_loop [1] (fun i => ∃ j : Nat, j ≤ n ∧ i = .int .i64 j ∧ G = great m j) (fun i => (intOf i).toNat)
  case atStart => exact ⟨n, by omega, rfl, HG.out⟩
  case round =>
    obtain ⟨j, hj, rfl, h1⟩ := hrel
    have H1 := Lib.hid h1
    clear h1
    cases j with
    | zero =>
      have e0 : Hid (G = 0) := H1.out
      go_wp2
      go_ret
      exact ⟨by rw [e0.out]; rfl, rfl⟩
    | succ j =>
      have x0 := HW.out.cell (i := j + 1) (by omega)
      by_cases hz : m (j + 1) = 0
      · have e0 : Hid (G = great m j) := H1.out.trans (if_pos hz)
        rw [hz] at x0
        go_wp2
        go_round
        case rel => exact ⟨j, by omega, rfl, e0.out⟩
        case measure => simp [intOf]
      · have e0 : Hid (G = j + 1) := H1.out.trans (if_neg hz)
        have e1 : ((m (j + 1) : Int) == 0) = false := by rw [beq_eq_false_iff_ne]; omega
        go_wp2
        go_ret
        exact ⟨by rw [e0.out]; rfl, rfl⟩
section
variable {t : TypeId} {N g : Nat} {m : Nat → Nat} {w : World}
theorem RowN.setN (h : RowN t N g (fun i => (m i : Int)) w) (i v : Nat) {z : Int} (hz : z = v) : RowN t N g (fun j => (upd m i v j : Int)) (w.setCell ⟨g, i, none⟩ (.int .i64 z)) := by
  subst hz
  refine (h.set i v).congr fun j _ => ?_
  by_cases e : j = i
  · subst e; rw [updI_same, upd_same]
  · rw [updI_ne _ _ e, upd_ne _ _ e]
end
set_option maxHeartbeats 1000000 in
set_option maxRecDepth 100000 in
theorem shorten_at (k : Nat) (m : Nat → Nat) (q : Nat) (hn : q ≤ 254) (h2 : 2 ≤ m (q + 2)) (hb : ∀ i, m i ≤ 100000) (J : Nat) (hJ : J = great (sh1 m (q + 2)) q) (hmJ : m J ≠ 0) (S : Nat → Nat) (hS : S = sh2 (sh1 m (q + 2)) J) (w : World) (hw : RowN 47 257 k (fun i => (m i : Int)) w) :
    Calls Try.prog 29 #[.pointer (some ⟨k, 0, none⟩), .int .i64 (q + 2 : Nat)] w fun e w' => e = .returned (.tuple #[]) ∧ RowN 47 257 k (fun i => (S i : Int)) w' ∧ But k w w' := by
  have HW := Lib.hid hw
  have x0 := hw.cell (i := q + 2) (by omega)
  have x1 := hw.free (q + 2)
  have hb0 := hb (q + 2)
  have HB := Lib.hid hb
  have HJ := Lib.hid hJ
  have HS := Lib.hid hS
  have HJ0 := Lib.hid (hJ ▸ great_le (sh1 m (q + 2)) q)
  have hj0 := HJ0.out
  clear hw hb hJ hS
  go_enter Try.func29, Try.ntmps29
  go_wp2
  go_region
  obtain ⟨w1, hw1⟩ : ∃ w1, w1 = (w.setCell { block := k, off := q + 2 } (Value.int IntKind.i64 (↑(m (q + 2)) - 2))).drew := ⟨_, rfl⟩
  rw [← hw1]
  obtain ⟨m1, hm1⟩ : ∃ m1, m1 = upd m (q + 2) (m (q + 2) - 2) := ⟨_, rfl⟩
  have G1 : Hid (RowN 47 257 k (fun i => (m1 i : Int)) w1) := by rw [hw1, hm1]; exact HW.out.setN (q + 2) (m (q + 2) - 2) (by omega)
  have B1 : Hid (But k w w1) := by rw [hw1]; exact ((But.refl k w).setCell _ _).drewN 1
  have e1 : m1 (q + 1) = m (q + 1) := by rw [hm1, upd_ne _ _ (by omega)]
  have HM1 := Lib.hid hm1
  have hb1 := HB.out (q + 1)
  clear hw1 x0 x1 hm1
  have x0 := G1.out.cell (i := q + 1) (by omega)
  have x1 := G1.out.free (q + 1)
  rw [e1] at x0
  clear e1
  go_wp2
  go_region
  obtain ⟨w2, hw2⟩ : ∃ w2, w2 = (w1.setCell { block := k, off := q + 1 } (Value.int IntKind.i64 (↑(m (q + 1)) + 1))).drew := ⟨_, rfl⟩
  rw [← hw2]
  obtain ⟨m2, hm2⟩ : ∃ m2, m2 = sh1 m (q + 2) := ⟨_, rfl⟩
  have G2 : Hid (RowN 47 257 k (fun i => (m2 i : Int)) w2) := by
    rw [hw2, hm2]
    unfold sh1
    rw [← HM1.out]
    exact G1.out.setN (q + 1) (m (q + 1) + 1) (by omega)
  have B2 : Hid (But k w w2) := by rw [hw2]; exact (B1.out.setCell _ _).drewN 1
  have HJ2 : Hid (J = great m2 q) := by rw [hm2]; exact HJ.out
  have e2 : m2 J = m J := by
    rw [hm2]; exact sh1_at m (q + 2) J (by omega) (by omega)
  have HM2 := Lib.hid hm2
  have HS2 : Hid (S = sh2 m2 J) := by rw [hm2]; exact HS.out
  have hb2 := HB.out J
  have hb3 := HB.out (q + 1)
  have hb4 := HB.out (J + 1)
  have hb5 : m2 (J + 1) ≤ 100001 := by
    rw [hm2]
    unfold sh1 upd
    have := HB.out (q + 2 - 1)
    split
    · omega
    · split <;> omega
  clear hw2 x0 x1 hm2 B1 G1
  go_wp2_with (go_at_call 30; refine (greatest_any k m2 q (by omega) J HJ2.out w2 G2.out).mono ?_; rintro e w3 ⟨rfl, rfl⟩)
  have x0 := G2.out.cell (i := J) (by omega)
  have x1 := G2.out.free J
  rw [e2] at x0
  have hmp : 1 ≤ m J := by omega
  clear hmJ
  go_wp2
  go_region
  obtain ⟨w4, hw4⟩ : ∃ w4, w4 = (w2.setCell { block := k, off := J } (Value.int IntKind.i64 (↑(m J) - 1))).drew := ⟨_, rfl⟩
  rw [← hw4]
  obtain ⟨m4, hm4⟩ : ∃ m4, m4 = upd m2 J (m2 J - 1) := ⟨_, rfl⟩
  have G4 : Hid (RowN 47 257 k (fun i => (m4 i : Int)) w4) := by rw [hw4, hm4]; exact G2.out.setN J (m2 J - 1) (by rw [e2]; omega)
  have B4 : Hid (But k w w4) := by rw [hw4]; exact (B2.out.setCell _ _).drewN 1
  have e4 : m4 (J + 1) = m2 (J + 1) := by rw [hm4, upd_ne _ _ (by omega)]
  have HM4 := Lib.hid hm4
  have HE2 := Lib.hid e2
  clear hw4 x0 x1 hm4 e2
  have x0 := G4.out.cell (i := J + 1) (by omega)
  have x1 := G4.out.free (J + 1)
  rw [e4] at x0
  clear e4
  go_wp2
  go_region
  obtain ⟨w5, hw5⟩ : ∃ w5, w5 = (w4.setCell { block := k, off := J + 1 } (Value.int IntKind.i64 (↑(m2 (J + 1)) + 2))).drew := ⟨_, rfl⟩
  rw [← hw5]
  have G5 : Hid (RowN 47 257 k (fun i => (S i : Int)) w5) := by
    rw [hw5, HS2.out]
    unfold sh2
    rw [← HM4.out]
    exact G4.out.setN (J + 1) (m2 (J + 1) + 2) (by omega)
  have B5 : Hid (But k w w5) := by rw [hw5]; exact (B4.out.setCell _ _).drewN 1
  clear hw5 x0 x1
  go_wp2
  go_end0
  exact ⟨rfl, G5.out, B5.out⟩
theorem shorten_any (k : Nat) (m : Nat → Nat) (n : Nat) (hn : n ≤ 256) (hn' : 17 ≤ n) (h2 : 2 ≤ m n) (hb : ∀ i, m i ≤ 100000) (hJ : 1 ≤ great m (n - 2)) (w : World) (hw : RowN 47 257 k (fun i => (m i : Int)) w) :
    Calls Try.prog 29 #[.pointer (some ⟨k, 0, none⟩), .int .i64 n] w fun e w' => e = .returned (.tuple #[]) ∧ RowN 47 257 k (fun i => (shc m n i : Int)) w' ∧ But k w w' := by
  obtain ⟨q, rfl⟩ : ∃ q, n = q + 2 := ⟨n - 2, by omega⟩
  have e : great (sh1 m (q + 2)) q = great m (q + 2 - 2) := great_congr fun i hi => sh1_at m (q + 2) i hi (by omega)
  exact shorten_at k m q (by omega) h2 hb (great m (q + 2 - 2)) e.symm (great_ne m _ (by omega)) _ rfl w hw
end Go.Proofs.Ytlfnjdgfllhepaa
