/- Whether numbers may be, and what codes cost: the walks of the law's right and the program's Cost. -/
import Derived.Test.YtlfnjdgfllhepaaBAwak2
namespace Go.Proofs.Ytlfnjdgfllhepaa
open Go.RowKit

def Some1 (fi : Nat → Int) (n : Nat) : Prop := ∃ i, i < n ∧ 0 < fi i
theorem some1_step {fi : Nat → Int} {n : Nat} {b : Bool} (hb : b = true ↔ Some1 fi n) : (b || decide (fi n > 0)) = true ↔ Some1 fi (n + 1) := by
  rw [Bool.or_eq_true, hb, decide_eq_true_iff]
  constructor
  · rintro (⟨i, h1, h2⟩ | h)
    · exact ⟨i, by omega, h2⟩
    · exact ⟨n, by omega, h⟩
  · rintro ⟨i, h1, h2⟩
    by_cases e : i = n
    · subst e; exact .inr h2
    · exact .inl ⟨i, by omega, h2⟩

set_option maxHeartbeats 1000000 in
set_option maxRecDepth 100000 in
theorem right_any (fi : Nat → Int) (R : Bool) (hR : R = true ↔ Okf fi ∧ Some1 fi 256) (w : World) :
    Calls Try.prog 9 #[.agg (ints 256 fi)] w fun e w' => e = .returned (.bool R) ∧ Below w.heap.size w w' := by
  obtain ⟨wb, hwb⟩ : ∃ wb, wb = w.alloc (.cells (ints 256 fi) 22) := ⟨_, rfl⟩
  have R0 : Hid (RowN 22 256 w.heap.size fi wb) := by rw [hwb]; exact RowN.new rfl
  have R1 : Hid (Below w.heap.size w wb) := by rw [hwb]; exact (Below.refl _ _).alloc (Nat.le_refl _) _
  have HR := Lib.hid hR
  clear hR
  go_enter Try.func9, Try.ntmps9
  go_wp2
  rw [← hwb]
  clear hwb
  go_loop [3, 4] (fun v i => ∃ (n : Nat) (b : Bool), n ≤ 256 ∧ i = .int .i64 n ∧ v = .bool b ∧ (b = true ↔ Some1 fi n) ∧ ∀ j, j < n → 0 ≤ fi j ∧ fi j ≤ 1099511627776) (fun _ i => 256 - (intOf i).toNat)
  case atStart => exact ⟨0, false, by omega, rfl, rfl, ⟨fun h => absurd h (by decide), fun ⟨i, hi, _⟩ => by omega⟩, fun j hj => by omega⟩
  case round =>
    obtain ⟨n, b, hn, rfl, rfl, hb, h1⟩ := hrel
    have H1 := Lib.hid h1
    have HB := Lib.hid (some1_step hb)
    have HB0 := Lib.hid hb
    clear h1 hb
    by_cases hlt : n < 256
    · have x0 := R0.out.cell (i := n) (by omega)
      by_cases ha : fi n < 0
      · have e0 : Hid (R = false) := by
          cases h : R with
          | false => rfl
          | true => have := (HR.out.1 h).1 n hlt; omega
        go_wp2
        go_ret
        exact ⟨by rw [e0.out]; rfl, R1.out⟩
      · by_cases hc : fi n > 1099511627776
        · have e0 : Hid (R = false) := by
            cases h : R with
            | false => rfl
            | true => have := (HR.out.1 h).1 n hlt; omega
          go_wp2
          go_ret
          exact ⟨by rw [e0.out]; rfl, R1.out⟩
        · have H2 : Hid (∀ j, j < n + 1 → 0 ≤ fi j ∧ fi j ≤ 1099511627776) := fun j hj => by
            by_cases e : j = n
            · subst e; omega
            · exact H1.out j (by omega)
          cases b with
          | true =>
            go_wp2
            go_round
            case rel => exact ⟨n + 1, true, by omega, by go_num, rfl, HB.out, H2.out⟩
            case measure => simp [intOf]; omega
          | false =>
            go_wp2
            go_round
            case rel => exact ⟨n + 1, decide (fi n > 0), by omega, by go_num, rfl, by have := HB.out; rwa [Bool.false_or] at this, H2.out⟩
            case measure => simp [intOf]; omega
    · obtain rfl : n = 256 := by omega
      have e0 : Hid (R = b) := by
        cases h : b with
        | false =>
          cases h2 : R with
          | false => rfl
          | true => exact absurd (HB0.out.2 (HR.out.1 h2).2) (by rw [h]; decide)
        | true => exact HR.out.2 ⟨H1.out, HB0.out.1 h⟩
      clear hlt
      go_wp2
      go_ret
      exact ⟨by rw [e0.out]; rfl, R1.out⟩

/-- How long a symbol's code is; 0 of one that has none. -/
def clen (c : Nat → Nat) (y : List UInt8) (x : Nat) : Nat := if x.toUInt8 ∈ y then codeL c (y.idxOf x.toUInt8) else 0
theorem Code_mem (k : Nat) (c : Nat → Nat) (hc : ∀ i, c i < 256) (s : ByteArray) (hR : Right c s.data.toList) (x : Nat) (hx : x < 256) (hm : x.toUInt8 ∈ s.data.toList) (w : World) (h : Tbl k c s w) :
    Calls Try.prog 12 #[.pointer (some ⟨k, 0, none⟩), .int .i64 x] w fun e w' => e = .returned (.tuple #[.int .i64 (codeN c (s.data.toList.idxOf x.toUInt8)), .int .i64 (clen c s.data.toList x), .bool true]) ∧ w = w' := by
  have hi := List.idxOf_lt_length_of_mem hm
  have hsz : s.data.toList.length = s.size := by simp
  have h1 := Code_yes k c hc s hR (s.data.toList.idxOf x.toUInt8) (by omega) w h
  have e : s[s.data.toList.idxOf x.toUInt8]'(by omega) = x.toUInt8 := by
    have := List.getElem_idxOf hi
    rw [Array.getElem_toList] at this
    exact this
  rw [e, toU_toNat x hx] at h1
  unfold clen
  rw [if_pos hm]
  exact h1
theorem clen_le {c : Nat → Nat} {y : List UInt8} (hR : Right c y) (x : Nat) : clen c y x ≤ 16 := by
  unfold clen
  split
  · rename_i h
    exact codeL_le hR (List.idxOf_lt_length_of_mem h)
  · omega

theorem off_cost {f l : Nat → Nat} (hf : ∀ i, i < 256 → f i ≤ 1099511627776) (hl : ∀ i, l i ≤ 16) : ∀ n, n ≤ 256 → off (fun x => f x * l x) n ≤ 17592186044416 * n
  | 0, _ => by simp [off]
  | n + 1, h => by
    have ih := off_cost hf hl n (by omega)
    have h1 : f n * l n ≤ 1099511627776 * 16 := Nat.mul_le_mul (hf n (by omega)) (hl n)
    show off _ n + f n * l n ≤ _
    omega
theorem Cost_nil (fi : Nat → Int) (w : World) : Calls Try.prog 14 #[.agg (ints 256 fi), .pointer none] w fun e w' => e = .returned (.tuple #[.int .i64 0, .bool false]) ∧ Below w.heap.size w w' := by
  have HB := Lib.hid (below_new w (.cells (ints 256 fi) 22))
  go_enter Try.func14, Try.ntmps14
  go_wp2
  go_ret2
  exact ⟨rfl, HB.out⟩
set_option maxHeartbeats 1000000 in
set_option maxRecDepth 100000 in
theorem Cost_bad (fi : Nat → Int) (h : ¬ Okf fi) (k : Nat) (w : World) : Calls Try.prog 14 #[.agg (ints 256 fi), .pointer (some ⟨k, 0, none⟩)] w fun e w' => e = .returned (.tuple #[.int .i64 0, .bool false]) ∧ Below w.heap.size w w' := by
  obtain ⟨wb, hwb⟩ : ∃ wb, wb = w.alloc (.cells (ints 256 fi) 22) := ⟨_, rfl⟩
  have HR : Hid (RowN 22 256 w.heap.size fi wb) := by rw [hwb]; exact RowN.new rfl
  have HB : Hid (Below w.heap.size w wb) := by rw [hwb]; exact below_new _ _
  have HA := Lib.hid (allowed_any fi false ⟨fun hh => absurd hh (by decide), fun h' => absurd h' h⟩)
  clear h
  go_enter Try.func14, Try.ntmps14
  go_upto_region 1 with fail
  rw [← hwb]
  clear hwb
  go_wp2_with (first
    | refine wpList_wanted rfl fun _ hK => wp_load_row 22 _ rfl w.heap.size rfl 22 _ (0, 0) _ HR.out Try.underlying22 rfl (size22i _) (hK _ _ ?_)
    | (go_at_call 17; refine (HA.out wb).mono ?_; rintro e w1 ⟨rfl, hb1⟩; have HB1 := Lib.hid (HB.out.trans (hb1.mono HB.out.size)); clear hb1 HA))
  go_ret2
  exact ⟨rfl, HB1.out⟩
/-- The table and the numbers, while symbols are gone through. -/
structure KSt (B k : Nat) (fi : Nat → Int) (c : Nat → Nat) (s : ByteArray) (w wr : World) : Prop where
  arg : RowN 22 256 B fi wr
  tab : Tbl k c s wr
  low : Below B w wr
set_option maxHeartbeats 2000000 in
set_option maxRecDepth 100000 in
theorem Cost_any (f : Nat → Nat) (fi : Nat → Int) (hfi : ∀ i, i < 256 → fi i = f i) (hf : ∀ i, i < 256 → f i ≤ 1099511627776) (k : Nat) (c : Nat → Nat) (hc : ∀ i, c i < 256) (s : ByteArray) (hR : Right c s.data.toList)
    (z : Int) (ok : Bool) (hz : (ok = true ∧ z = (off (fun x => f x * clen c s.data.toList x) 256 : Nat) ∧ ∀ x, x < 256 → f x ≠ 0 → x.toUInt8 ∈ s.data.toList) ∨ (ok = false ∧ z = 0 ∧ ∃ x, x < 256 ∧ f x ≠ 0 ∧ x.toUInt8 ∉ s.data.toList)) (w : World) (h : Tbl k c s w) :
    Calls Try.prog 14 #[.agg (ints 256 fi), .pointer (some ⟨k, 0, none⟩)] w fun e w' => e = .returned (.tuple #[.int .i64 z, .bool ok]) ∧ Below w.heap.size w w' := by
  obtain ⟨wb, hwb⟩ : ∃ wb, wb = w.alloc (.cells (ints 256 fi) 22) := ⟨_, rfl⟩
  have HR : Hid (RowN 22 256 w.heap.size fi wb) := by rw [hwb]; exact RowN.new rfl
  have HB : Hid (Below w.heap.size w wb) := by rw [hwb]; exact below_new _ _
  have HT : Hid (Tbl k c s wb) := by rw [hwb]; exact h.on (below_new _ _)
  have HA := Lib.hid (allowed_any fi true ⟨fun _ i hi => by rw [hfi i hi]; have := hf i hi; omega, fun _ => rfl⟩)
  obtain ⟨N, hN⟩ : ∃ N, N = 256 := ⟨_, rfl⟩
  rw [← hN] at hz
  have HN := Lib.hid hN
  have HZ := Lib.hid hz
  have HFI := Lib.hid hfi
  have HF := Lib.hid hf
  have HC := Lib.hid hc
  have HRT := Lib.hid hR
  obtain ⟨y, hy⟩ : ∃ y, y = s.data.toList := ⟨_, rfl⟩
  have HY := Lib.hid hy
  clear hz hfi hf hc hR h hN hy
  go_enter Try.func14, Try.ntmps14
  go_upto_region 1 with fail
  rw [← hwb]
  clear hwb
  go_wp2_with (first
    | refine wpList_wanted rfl fun _ hK => wp_load_row 22 _ rfl w.heap.size rfl 22 _ (0, 0) _ HR.out Try.underlying22 rfl (size22i _) (hK _ _ ?_)
    | (go_at_call 17; refine (HA.out wb).mono ?_; rintro e w1 ⟨rfl, hb1⟩; have HK := Lib.hid (KSt.mk (HR.out.on hb1) (HT.out.on hb1) (HB.out.trans (hb1.mono HB.out.size))); clear hb1 HA HR HB HT))
  go_loop [6, 18] (fun v i => ∃ n : Nat, n ≤ 256 ∧ i = .int .i64 n ∧ v = .int .i64 (off (fun x => f x * clen c y x) n : Nat) ∧ ∀ x, x < n → f x ≠ 0 → x.toUInt8 ∈ y) (fun _ i => 256 - (intOf i).toNat)
  case atStart => exact ⟨0, by omega, rfl, rfl, fun x hx => by omega⟩
  case round =>
    obtain ⟨n, hn, rfl, rfl, h1⟩ := hrel
    have H1 := Lib.hid h1
    clear h1
    by_cases hlt : n < 256
    · have x0 := HK.out.arg.cell (i := n) hlt
      rw [HFI.out n hlt] at x0
      have hfn := HF.out n hlt
      have hbd := off_cost HF.out (clen_le (HY.out ▸ HRT.out)) n hn
      have hbd1 := off_cost HF.out (clen_le (HY.out ▸ HRT.out)) (n + 1) (by omega)
      have HE : Hid (off (fun x => f x * clen c y x) (n + 1) = off (fun x => f x * clen c y x) n + f n * clen c y n) := rfl
      rw [HE.out] at hbd1
      generalize off (fun x => f x * clen c y x) n = A at *
      by_cases h0 : f n = 0
      · rw [h0] at x0
        have HE2 : Hid (off (fun x => f x * clen c y x) (n + 1) = A) := by unfold Hid; rw [HE.out, h0, Nat.zero_mul, Nat.add_zero]
        have H2 : Hid (∀ x, x < n + 1 → f x ≠ 0 → x.toUInt8 ∈ y) := fun x hx hfx => by
          by_cases e : x = n
          · subst e; exact absurd h0 hfx
          · exact H1.out x (by omega) hfx
        clear h0 hfn hbd1 HE
        go_wp2
        go_round
        case rel => exact ⟨n + 1, by omega, by go_num, by rw [HE2.out], H2.out⟩
        case measure => simp [intOf]; omega
      · by_cases hm : n.toUInt8 ∈ y
        · have HCd := Lib.hid (Code_mem k c HC.out s HRT.out n hlt (HY.out ▸ hm) w1 HK.out.tab)
          rw [← HY.out] at HCd
          have H2 : Hid (∀ x, x < n + 1 → f x ≠ 0 → x.toUInt8 ∈ y) := fun x hx hfx => by
            by_cases e : x = n
            · subst e; exact hm
            · exact H1.out x (by omega) hfx
          have e1 : ((f n : Int) == 0) = false := by rw [beq_eq_false_iff_ne]; omega
          clear h0 hm
          generalize clen c y n = l at *
          generalize f n = q at *
          generalize codeN c _ = v at *
          go_wp2_with (go_at_call 12; refine HCd.out.mono ?_; rintro e w2 ⟨rfl, rfl⟩; clear HCd)
          exact ⟨⟨n + 1, by omega, by go_num, by rw [HE.out, Int.natCast_add, Int.natCast_mul], H2.out⟩, by simp [intOf]; omega⟩
        · have HCd := Lib.hid (Code_no k c s n hlt (HY.out ▸ hm) w1 HK.out.tab)
          have e1 : ((f n : Int) == 0) = false := by rw [beq_eq_false_iff_ne]; omega
          have HZ2 : Hid (ok = false ∧ z = 0) := by
            rcases HZ.out with ⟨_, _, h3⟩ | ⟨h1, h2, _⟩
            · exact absurd (h3 n (by rw [HN.out]; exact hlt) h0) (HY.out ▸ hm)
            · exact ⟨h1, h2⟩
          clear h0 hm hbd1 HE
          go_wp2_with (go_at_call 12; refine HCd.out.mono ?_; rintro e w2 ⟨rfl, rfl⟩; clear HCd)
          go_ret2
          exact ⟨by rw [HZ2.out.1, HZ2.out.2]; rfl, HK.out.low⟩
    · obtain rfl : n = 256 := by omega
      have HZ2 : Hid (ok = true ∧ z = (off (fun x => f x * clen c y x) 256 : Nat)) := by
        rcases HZ.out with ⟨h1, h2, _⟩ | ⟨_, _, x, h3, h4, h5⟩
        · exact ⟨h1, by rw [h2, HN.out, HY.out]⟩
        · exact absurd (HY.out ▸ H1.out x (by rw [← HN.out]; exact h3) h4) h5
      clear hlt
      generalize off (fun x => f x * clen c y x) 256 = A at *
      go_wp2
      go_ret2
      exact ⟨by rw [HZ2.out.1, HZ2.out.2]; rfl, HK.out.low⟩
end Go.Proofs.Ytlfnjdgfllhepaa
