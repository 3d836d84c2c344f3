/- BestCosts, of a right table: its walk. -/
import Derived.Test.YtlfnjdgfllhepaaBCostL
namespace Go.Proofs.Ytlfnjdgfllhepaa
open Go.RowKit

structure CLt (B K : Nat) (fi : Nat → Int) (c : Nat → Nat) (v : Value) (l : List Cd) (w wr : World) : Prop where
  st : BSt B fi c w wr
  own : OwnC K v l wr
theorem CLt.on {B K : Nat} {fi : Nat → Int} {c : Nat → Nat} {v : Value} {l : List Cd} {w wr w' : World} (h : CLt B K fi c v l w wr) (hb : Below wr.heap.size wr w') : CLt B K fi c v l w w' := ⟨h.st.on hb, h.own.below hb⟩
/-- What Cost answers, told by the numbers and the symbols. -/
def CostIs (N : Nat) (fi : Nat → Int) (c : Nat → Nat) (y : List UInt8) (z : Int) (ok : Bool) : Prop :=
  (ok = false ∧ z = 0 ∧ ∃ x, x < N ∧ Bad fi y x) ∨ (ok = true ∧ z = (off (fun x => (fi x).toNat * clen c y x) N : Nat) ∧ ∀ x, x < N → ¬ Bad fi y x)
theorem off_costs {fi : Nat → Int} {y : List UInt8} {l : Nat → Nat} (hl : ∀ i, l i ≤ 16) : ∀ n, n ≤ 256 → (∀ x, x < n → ¬ Bad fi y x) → off (fun x => (fi x).toNat * l x) n ≤ 17592186044416 * n
  | 0, _, _ => by simp [off]
  | n + 1, h, hb => by
    have ih := off_costs hl n (by omega) fun x hx => hb x (by omega)
    have h2 : (fi n).toNat ≤ 1099511627776 := by
      have := hb n (by omega)
      unfold Bad at this
      omega
    have h1 : (fi n).toNat * l n ≤ 1099511627776 * 16 := Nat.mul_le_mul h2 (hl n)
    show off _ n + (fi n).toNat * l n ≤ _
    omega

set_option maxHeartbeats 2000000 in
set_option maxRecDepth 100000 in
theorem BestCosts_right (fi : Nat → Int) (c : Nat → Nat) (hc : ∀ i, c i < 256) (s : ByteArray) (hs : s.size ≤ 256) (hR : Right c s.data.toList) (z : Int) (ok : Bool) (N : Nat) (hN : N = 256) (y : List UInt8) (hy : y = s.data.toList) (hz : CostIs N fi c y z ok)
    (hCo : ∀ k w, Tbl k c s w → Calls Try.prog 14 #[.agg (ints 256 fi), .pointer (some ⟨k, 0, none⟩)] w fun e w' => e = .returned (.tuple #[.int .i64 z, .bool ok]) ∧ Below w.heap.size w w') (w : World) :
    Calls Try.prog 6 #[.agg (ints 256 fi), .agg (cnt c), .string s] w fun e w' => e = .returned (.bool true) ∧ Below w.heap.size w w' := by
  obtain ⟨wb, hwb⟩ : ∃ wb, wb = (w.alloc (.cells (ints 256 fi) 22)).alloc (.cells (cnt c) 23) := ⟨_, rfl⟩
  obtain ⟨l, hl⟩ : ∃ l, l = codes c y 16 := ⟨_, rfl⟩
  have HS : Hid (BSt w.heap.size fi c w wb) := hwb ▸ BSt.start fi c w
  have HA := Lib.hid awake_any
  have HN := Lib.hid (New_yes c hc s (by unfold maxLen; omega) hR)
  have HCo := Lib.hid hCo
  have hpos : 0 < s.size := by
    have h1 := hR.some
    have h2 : s.data.toList.length = s.size := by simp
    omega
  have HCd : Hid (∀ w, Calls Try.prog 15 #[.agg (cnt c), .string s] w fun e w' => ∃ g q, e = .returned (.tuple #[.slice (some ⟨g, 0, none⟩) s.size q, .bool true]) ∧ OwnC w.heap.size (.slice (some ⟨g, 0, none⟩) s.size q) l w' ∧ Below w.heap.size w w') := by
    intro w
    refine (Codes_any c hc s (by omega) w).mono ?_
    rintro e w' ⟨⟨_, v, rfl, ho⟩ | ⟨h, _⟩, hb⟩
    · rw [← hy, ← hl] at ho
      have hlen : l.length = s.size := by
        rw [hl, codes_length, hR.sum]
        simp
      rcases ho.2 with ⟨_, h0⟩ | ⟨g, q, cur, rfl, _⟩
      · omega
      · rw [hlen] at ho ⊢
        exact ⟨g, q, rfl, ho, hb⟩
    · exact absurd hR h
  have HFm : Hid (∀ (K g q n : Nat) (x : World), n < 256 → n.toUInt8 ∈ y → OwnC K (.slice (some ⟨g, 0, none⟩) s.size q) l x → Calls Try.prog 16 #[.slice (some ⟨g, 0, none⟩) s.size q, .int .i64 n] x fun e w' => ∃ a, e = .returned (.tuple #[.agg #[.int .i64 n, .int .i64 a, .int .i64 (clen c y n)], .bool true]) ∧ Below x.heap.size x w') := by
    intro K g q n x hn hm ho
    refine (Find_mem K g q c hc s hR n hn (hy ▸ hm) x (by rw [← hy, ← hl]; exact ho)).mono ?_
    rintro e w' ⟨rfl, hb⟩
    exact ⟨_, by rw [hy], hb⟩
  have HFo : Hid (∀ (K g q n : Nat) (x : World), n < 256 → n.toUInt8 ∉ y → OwnC K (.slice (some ⟨g, 0, none⟩) s.size q) l x → Calls Try.prog 16 #[.slice (some ⟨g, 0, none⟩) s.size q, .int .i64 n] x fun e w' => ∃ a, e = .returned (.tuple #[.agg #[.int .i64 a, .int .i64 0, .int .i64 0], .bool false]) ∧ Below x.heap.size x w') := by
    intro K g q n x hn hm ho
    refine (Find_out K g q c s hR n hn (hy ▸ hm) x (by rw [← hy, ← hl]; exact ho)).mono ?_
    rintro e w' ⟨rfl, hb⟩
    exact ⟨0, rfl, hb⟩
  have HCl := Lib.hid (clen_le hR)
  rw [← hy] at HCl
  have HZ := Lib.hid hz
  have HYtlfnjdgfllhepaa := Lib.hid hN
  clear hc hR hz hCo hN hy hl
  go_enter Try.func6, Try.ntmps6
  go_upto_region 1 with fail
  rw [← hwb]
  clear hwb
  go_wp2_with (first
    | (go_at_call 10; refine (HA.out wb).mono ?_; rintro e w1 ⟨rfl, hb1⟩; have HS1 := Lib.hid (HS.out.on hb1); clear hb1 HS)
    | refine wpList_load_row rfl 23 _ rfl (w.heap.size + 1) rfl 23 _ (0, 0) _ HS1.out.tab Try.underlying23 rfl (size22 _) ?_
    | refine wpList_load_row rfl 22 _ rfl w.heap.size rfl 22 _ (0, 0) _ HS2.out.arg Try.underlying22 rfl (size22i _) ?_
    | refine wpList_load_row rfl 23 _ rfl (w.heap.size + 1) rfl 23 _ (0, 0) _ HS3.out.tab Try.underlying23 rfl (size22 _) ?_
    | (go_at_call 11; refine (HN.out w1).mono ?_; rintro e w2 ⟨k, rfl, hg, _, hb2⟩; have HG := Lib.hid hg; have HS2 := Lib.hid (HS1.out.on hb2); clear hb2 hg HS1 HN)
    | (go_at_call 14; refine (HCo.out k w2 HG.out).mono ?_; rintro e w3 ⟨rfl, hb3⟩; have HS3 := Lib.hid (HS2.out.on hb3); clear hb3 HS2)
    | (go_at_call 15; refine (HCd.out w3).mono ?_; rintro e w4 ⟨g, q, rfl, ho4, hb4⟩; have HS4 := Lib.hid (HS3.out.on hb4); have HO4 := Lib.hid ho4; clear hb4 ho4 HS3))
  go_loopw [13, 14] (fun v i wr => ∃ n : Nat, n ≤ 256 ∧ i = .int .i64 n ∧ v = .int .i64 (off (fun x => (fi x).toNat * clen c y x) n : Nat) ∧ (∀ x, x < n → ¬ Bad fi y x) ∧ CLt w.heap.size w3.heap.size fi c (.slice (some ⟨g, 0, none⟩) s.size q) l w wr) (fun _ i _ => 256 - (intOf i).toNat)
  case atStart => exact ⟨0, by omega, rfl, rfl, fun x hx => by omega, HS4.out, HO4.out⟩
  case round =>
    obtain ⟨n, hn, rfl, rfl, h1, hst⟩ := hrel
    have H1 := Lib.hid h1
    have HL := Lib.hid hst
    clear h1 hst
    by_cases hlt : n < 256
    · have hbd := off_costs HCl.out n hn H1.out
      have HE : Hid (off (fun x => (fi x).toNat * clen c y x) (n + 1) = off (fun x => (fi x).toNat * clen c y x) n + (fi n).toNat * clen c y n) := rfl
      by_cases hm : n.toUInt8 ∈ y
      · have HF := Lib.hid (HFm.out _ g q n wr hlt hm HL.out.own)
        go_upto_region 13 with (go_at_call 16; refine HF.out.mono ?_; rintro e w5 ⟨a, rfl, hb5⟩; have HL5 := Lib.hid (HL.out.on hb5); clear hb5)
        obtain ⟨w6, hw6⟩ : ∃ w6, w6 = w5.alloc (Obj.cells #[Value.int IntKind.i64 ↑n, Value.int IntKind.i64 a, Value.int IntKind.i64 ↑(clen c y n)] 43) := ⟨_, rfl⟩
        rw [← hw6]
        have HL6 : Hid (CLt w.heap.size w3.heap.size fi c (.slice (some ⟨g, 0, none⟩) s.size q) l w w6) := by rw [hw6]; exact HL5.out.on (below_new _ _)
        have hbx : BoxD w5.heap.size n a (clen c y n : Nat) w6 := by rw [hw6]; exact heap_alloc_new _ _
        have x2 := hbx.c2
        have x0 := HL6.out.st.arg.cell (i := n) hlt
        clear hw6 hbx HF
        by_cases ha : fi n < 0
        · have hzz : ok = false ∧ z = 0 := by
            rcases HZ.out with ⟨h1, h2, _⟩ | ⟨_, _, h3⟩
            · exact ⟨h1, h2⟩
            · exact absurd (show Bad fi y n from .inl ha) (h3 n (by rw [HYtlfnjdgfllhepaa.out]; exact hlt))
          obtain ⟨rfl, rfl⟩ := hzz
          clear HZ HE hbd
          go_wp2
          go_ret
          exact ⟨rfl, HL6.out.st.low⟩
        · by_cases hb : fi n > 1099511627776
          · have hzz : ok = false ∧ z = 0 := by
              rcases HZ.out with ⟨h1, h2, _⟩ | ⟨_, _, h3⟩
              · exact ⟨h1, h2⟩
              · exact absurd (show Bad fi y n from .inr (.inl hb)) (h3 n (by rw [HYtlfnjdgfllhepaa.out]; exact hlt))
            obtain ⟨rfl, rfl⟩ := hzz
            clear HZ HE hbd
            go_wp2
            go_ret
            exact ⟨rfl, HL6.out.st.low⟩
          · have hlm := HCl.out n
            have H2 : Hid (∀ x, x < n + 1 → ¬ Bad fi y x) := fun x hx hB => by
              by_cases e : x = n
              · subst e
                unfold Bad at hB
                rcases hB with hB | hB | ⟨hB, hB2⟩
                · omega
                · omega
                · exact hB2 hm
              · exact H1.out x (by omega) hB
            obtain ⟨p, hp⟩ : ∃ p : Nat, fi n = p := ⟨(fi n).toNat, by omega⟩
            have HP : Hid ((fi n).toNat = p) := by unfold Hid; omega
            rw [HP.out] at HE
            rw [hp] at x0
            have hp2 : p ≤ 1099511627776 := by omega
            have hpr : p * clen c y n ≤ 1099511627776 * 16 := Nat.mul_le_mul hp2 hlm
            clear ha hb hm hp HP
            generalize clen c y n = ll at *
            generalize off (fun x => (fi x).toNat * clen c y x) n = A at *
            by_cases h0 : p = 0
            · subst h0
              go_wp2
              go_quiet (fail)
              go_wp2
              go_roundw
              case rel => exact ⟨n + 1, by omega, by go_num, by rw [HE.out]; simp, H2.out, HL6.out.on (below_drewN _ _ _)⟩
              case measure => simp [intOf]; omega
            · have h0' : 0 < p := by omega
              clear h0
              go_wp2
              go_quiet (fail)
              go_wp2
              go_roundw
              case rel => exact ⟨n + 1, by omega, by go_num, by rw [HE.out, Int.natCast_add, Int.natCast_mul], H2.out, HL6.out.on (below_drewN _ _ _)⟩
              case measure => simp [intOf]; omega
      · have HF := Lib.hid (HFo.out _ g q n wr hlt hm HL.out.own)
        go_upto_region 13 with (go_at_call 16; refine HF.out.mono ?_; rintro e w5 ⟨a, rfl, hb5⟩; have HL5 := Lib.hid (HL.out.on hb5); clear hb5)
        obtain ⟨w6, hw6⟩ : ∃ w6, w6 = w5.alloc (Obj.cells #[Value.int IntKind.i64 a, Value.int IntKind.i64 0, Value.int IntKind.i64 0] 43) := ⟨_, rfl⟩
        rw [← hw6]
        have HL6 : Hid (CLt w.heap.size w3.heap.size fi c (.slice (some ⟨g, 0, none⟩) s.size q) l w w6) := by rw [hw6]; exact HL5.out.on (below_new _ _)
        have hbx : BoxD w5.heap.size a 0 0 w6 := by rw [hw6]; exact heap_alloc_new _ _
        have x2 := hbx.c2
        have x0 := HL6.out.st.arg.cell (i := n) hlt
        clear hw6 hbx HF
        by_cases ha : fi n < 0
        · have hzz : ok = false ∧ z = 0 := by
            rcases HZ.out with ⟨h1, h2, _⟩ | ⟨_, _, h3⟩
            · exact ⟨h1, h2⟩
            · exact absurd (show Bad fi y n from .inl ha) (h3 n (by rw [HYtlfnjdgfllhepaa.out]; exact hlt))
          obtain ⟨rfl, rfl⟩ := hzz
          clear HZ HE hbd
          go_wp2
          go_ret
          exact ⟨rfl, HL6.out.st.low⟩
        · by_cases hb : fi n > 1099511627776
          · have hzz : ok = false ∧ z = 0 := by
              rcases HZ.out with ⟨h1, h2, _⟩ | ⟨_, _, h3⟩
              · exact ⟨h1, h2⟩
              · exact absurd (show Bad fi y n from .inr (.inl hb)) (h3 n (by rw [HYtlfnjdgfllhepaa.out]; exact hlt))
            obtain ⟨rfl, rfl⟩ := hzz
            clear HZ HE hbd
            go_wp2
            go_ret
            exact ⟨rfl, HL6.out.st.low⟩
          · by_cases h0 : fi n = 0
            · have HP : Hid ((fi n).toNat = 0) := by unfold Hid; omega
              have H2 : Hid (∀ x, x < n + 1 → ¬ Bad fi y x) := fun x hx hB => by
                by_cases e : x = n
                · subst e
                  unfold Bad at hB
                  rcases hB with hB | hB | ⟨hB, hB2⟩
                  · omega
                  · omega
                  · omega
                · exact H1.out x (by omega) hB
              rw [HP.out, Nat.zero_mul, Nat.add_zero] at HE
              rw [h0] at x0
              clear ha hb hm HP h0
              generalize off (fun x => (fi x).toNat * clen c y x) n = A at *
              go_wp2
              go_quiet (fail)
              go_wp2
              go_roundw
              case rel => exact ⟨n + 1, by omega, by go_num, by rw [HE.out]; simp, H2.out, HL6.out.on (below_drewN _ _ _)⟩
              case measure => simp [intOf]; omega
            · have hp : 0 < fi n := by omega
              have hzz : ok = false ∧ z = 0 := by
                rcases HZ.out with ⟨h1, h2, _⟩ | ⟨_, _, h3⟩
                · exact ⟨h1, h2⟩
                · exact absurd (show Bad fi y n from .inr (.inr ⟨hp, hm⟩)) (h3 n (by rw [HYtlfnjdgfllhepaa.out]; exact hlt))
              obtain ⟨rfl, rfl⟩ := hzz
              clear HZ HE hbd
              go_wp2
              go_ret
              exact ⟨rfl, HL6.out.st.low⟩
    · obtain rfl : n = 256 := by omega
      have hzz : ok = true ∧ z = (off (fun x => (fi x).toNat * clen c y x) 256 : Nat) := by
        rcases HZ.out with ⟨_, _, x, h3, h4⟩ | ⟨h1, h2, _⟩
        · exact absurd h4 (H1.out x (by rw [← HYtlfnjdgfllhepaa.out]; exact h3))
        · exact ⟨h1, by rw [h2, HYtlfnjdgfllhepaa.out]⟩
      obtain ⟨rfl, rfl⟩ := hzz
      clear hlt HZ
      generalize off (fun x => (fi x).toNat * clen c y x) 256 = A at *
      go_wp2
      go_ret
      exact ⟨ret_bool (by simp), HL.out.st.low⟩
end Go.Proofs.Ytlfnjdgfllhepaa
