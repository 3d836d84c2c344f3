/- BestBeats: its walk. -/
import Derived.Test.YtlfnjdgfllhepaaBBeatP
import Derived.Test.YtlfnjdgfllhepaaBRights
namespace Go.Proofs.Ytlfnjdgfllhepaa
open Go.RowKit

set_option maxHeartbeats 1000000 in
set_option maxRecDepth 100000 in
theorem beats_no (fi : Nat → Int) (hr : ∀ w, Calls Try.prog 9 #[.agg (ints 256 fi)] w fun e w' => e = .returned (.bool false) ∧ Below w.heap.size w w') (w : World) :
    Calls Try.prog 7 #[.agg (ints 256 fi)] w fun e w' => e = .returned (.bool true) ∧ Below w.heap.size w w' := by
  obtain ⟨wb, hwb⟩ : ∃ wb, wb = w.alloc (.cells (ints 256 fi) 22) := ⟨_, rfl⟩
  have HS : Hid (ASt w.heap.size fi w wb) := hwb ▸ ASt.start fi w
  have HR := Lib.hid hr
  have HA := Lib.hid awake_any
  clear hr
  go_enter Try.func7, Try.ntmps7
  go_upto_region 1 with fail
  rw [← hwb]
  clear hwb
  go_wp2_with (first
    | refine wpList_load_row rfl 22 _ rfl w.heap.size rfl 22 _ (0, 0) _ HS.out.arg Try.underlying22 rfl (size22i _) ?_
    | (go_at_call 9; refine (HR.out _).mono ?_; rintro e w3 ⟨rfl, hb3⟩; have HS3 := Lib.hid (HS.out.on hb3); clear hb3 HR)
    | (go_at_call 10; refine (HA.out w3).mono ?_; rintro e w4 ⟨rfl, hb4⟩; have HS4 := Lib.hid (HS3.out.on hb4); clear hb4 HA))
  go_ret
  exact ⟨rfl, HS4.out.low⟩

set_option maxHeartbeats 2000000 in
set_option maxRecDepth 100000 in
theorem beats_yes (f : Nat → Nat) (fi : Nat → Int) (hfi : ∀ i, i < 256 → fi i = f i) (C : Nat → Nat) (hC : ∀ i, C i < 256) (S : ByteArray) (hS : S.size ≤ 256) (hS0 : 1 ≤ S.size) (hRt : Right C S.data.toList) (Z : Nat)
    (hCo : ∀ k w, Tbl k C S w → Calls Try.prog 14 #[.agg (ints 256 fi), .pointer (some ⟨k, 0, none⟩)] w fun e w' => e = .returned (.tuple #[.int .i64 Z, .bool true]) ∧ Below w.heap.size w w')
    (N : Nat) (hN : N = 256) (hle : ∀ k, k ≤ 20 → S.size + 1 ≤ 2 ^ k → off f N ≤ 2000 → Z ≤ off f N * k + k)
    (hT : ∀ w, Calls Try.prog 8 #[.agg (ints 256 fi)] w fun e w' => e = .returned (.tuple #[.agg (cnt C), .string S, .int .i64 0]) ∧ Below w.heap.size w w')
    (hr : ∀ w, Calls Try.prog 9 #[.agg (ints 256 fi)] w fun e w' => e = .returned (.bool true) ∧ Below w.heap.size w w') (w : World) :
    Calls Try.prog 7 #[.agg (ints 256 fi)] w fun e w' => e = .returned (.bool true) ∧ Below w.heap.size w w' := by
  obtain ⟨wb, hwb⟩ : ∃ wb, wb = w.alloc (.cells (ints 256 fi) 22) := ⟨_, rfl⟩
  have HS : Hid (ASt w.heap.size fi w wb) := hwb ▸ ASt.start fi w
  have HT := Lib.hid hT
  have HR := Lib.hid hr
  have HA := Lib.hid awake_any
  have HNw := Lib.hid (New_yes C hC S (by unfold maxLen; omega) hRt)
  have HCo := Lib.hid hCo
  have HFI := Lib.hid hfi
  have HLE := Lib.hid hle
  have HN := Lib.hid hN
  have hz23 := zero23
  clear hT hr hC hRt hfi hle hN hCo
  go_enter Try.func7, Try.ntmps7
  go_upto_region 1 with fail
  rw [← hwb]
  clear hwb
  go_wp2_with (first
    | refine wpList_load_row rfl 22 _ rfl w.heap.size rfl 22 _ (0, 0) _ HS5.out.arg Try.underlying22 rfl (size22i _) ?_
    | refine wpList_load_row rfl 22 _ rfl w.heap.size rfl 22 _ (0, 0) _ HS1.out.arg Try.underlying22 rfl (size22i _) ?_
    | refine wpList_load_row rfl 22 _ rfl w.heap.size rfl 22 _ (0, 0) _ HS.out.arg Try.underlying22 rfl (size22i _) ?_
    | (go_at_call 9; refine (HR.out wb).mono ?_; rintro e w1 ⟨rfl, hb1⟩; have HS1 := Lib.hid (HS.out.on hb1); clear hb1 HR HS)
    | (go_at_call 8; refine (HT.out w1).mono ?_; rintro e w2 ⟨rfl, hb2⟩; have HS2 := Lib.hid (HS1.out.on hb2); clear hb2 HT HS1)
    | (refine wpList_store_row rfl 23 _ _ rfl w2.heap.size _ rfl rfl 23 _ (heap_alloc_new _ _) (size22 _) ((cnt_size _).trans (cnt_size _).symm) (cnt_one _) ?_; have HS3 := Lib.hid (HS2.out.on (below_row w2 (cnt fun _ => 0) (cnt C) 23)); have HC3 : Hid (RowC w2.heap.size C ((w2.alloc (.cells (cnt fun _ => 0) 23)).setRow w2.heap.size (cnt C))) := RowC.setRow (c := fun _ => 0) (heap_alloc_new _ _))
    | refine wpList_load_row rfl 23 _ rfl w2.heap.size rfl 23 _ (0, 0) _ HC3.out Try.underlying23 rfl (size22 _) ?_
    | (go_at_call 11; refine (HNw.out _).mono ?_; rintro e w4 ⟨g, rfl, hg, _, hb4⟩; have HG := Lib.hid hg; have HS5 := Lib.hid (HS3.out.on hb4); clear hg hb4 HNw HS3)
    | (go_at_call 14; refine (HCo.out g w4 HG.out).mono ?_; rintro e w5 ⟨rfl, hb5⟩; have HS6 := Lib.hid (HS5.out.on hb5); clear hb5 HCo))
  go_loop [10, 12] (fun v i => ∃ n : Nat, n ≤ 256 ∧ i = .int .i64 n ∧ v = .int .i64 (off f n : Nat) ∧ off f n ≤ 4000) (fun _ i => 256 - (intOf i).toNat)
  case atStart => exact ⟨0, by omega, rfl, rfl, Nat.zero_le _⟩
  case round =>
    obtain ⟨n, hn, rfl, rfl, hbd⟩ := hrel
    by_cases hlt : n < 256
    · have x0 := HS6.out.arg.cell (i := n) hlt
      rw [HFI.out n hlt] at x0
      have HE : Hid (off f (n + 1) = off f n + f n) := rfl
      generalize off f n = A at *
      generalize f n = q at *
      by_cases h1 : 2000 < q
      · have h1' : (2000 : Int) < (q : Int) := by omega
        go_wp2_with (go_at_call 10; refine (HA.out w5).mono ?_; rintro e w6 ⟨rfl, hb6⟩; have HS7 := Lib.hid (HS6.out.on hb6); clear hb6 HA)
        go_ret
        exact ⟨rfl, HS7.out.low⟩
      · have h1' : ¬ (2000 : Int) < (q : Int) := by omega
        by_cases h2 : 2000 < A
        · have h2' : (2000 : Int) < (A : Int) := by omega
          go_wp2_with (go_at_call 10; refine (HA.out w5).mono ?_; rintro e w6 ⟨rfl, hb6⟩; have HS7 := Lib.hid (HS6.out.on hb6); clear hb6 HA)
          go_ret
          exact ⟨rfl, HS7.out.low⟩
        · have h2' : ¬ (2000 : Int) < (A : Int) := by omega
          go_wp2
          go_round
          case rel => exact ⟨n + 1, by omega, by go_num, by rw [HE.out, Int.natCast_add], by rw [HE.out]; omega⟩
          case measure => simp [intOf]; omega
    · obtain rfl : n = 256 := by omega
      clear hlt
      rw [HN.out] at HLE
      generalize off f 256 = A at *
      rw [show ((256 : Nat) : Int) = 256 from rfl]
      by_cases h2 : 2000 < A
      · have h2' : (2000 : Int) < (A : Int) := by omega
        go_wp2_with (go_at_call 10; refine (HA.out w5).mono ?_; rintro e w6 ⟨rfl, hb6⟩; have HS7 := Lib.hid (HS6.out.on hb6); clear hb6 HA)
        go_ret
        exact ⟨rfl, HS7.out.low⟩
      · have h2' : decide ((2000 : Int) < (A : Int)) = false := by simp; omega
        go_wp2
        go_loop [11, 13] (fun v i => ∃ e k : Nat, v = .int .i64 ((e : Int) + 1) ∧ i = .int .i64 k ∧ 1 ≤ k ∧ S.size + 1 ≤ 2 ^ e * (k + 1) ∧ 2 ^ e * k ≤ S.size) (fun _ i => (intOf i).toNat)
        case atStart => exact ⟨0, S.size, rfl, rfl, hS0, by omega, by omega⟩
        case round =>
          obtain ⟨e, k, rfl, rfl, k1, k2, k3⟩ := hrel
          have hpe : 2 ^ e ≤ 256 := Nat.le_trans (Nat.le_mul_of_pos_right _ k1) (by omega)
          have he : e ≤ 8 := by
            by_cases q : e ≤ 8
            · exact q
            · have := Nat.pow_le_pow_right (n := 2) (by omega) (show 9 ≤ e by omega)
              omega
          have hk256 : k ≤ 256 := Nat.le_trans (Nat.le_mul_of_pos_left _ (Nat.two_pow_pos e)) (Nat.le_trans k3 hS)
          by_cases hk : 1 < k
          · have K2 : Hid (S.size + 1 ≤ 2 ^ (e + 1) * (k / 2 + 1)) := by
              have : 2 ^ e * (k + 1) ≤ 2 ^ e * (2 * (k / 2 + 1)) := Nat.mul_le_mul_left _ (by omega)
              rw [← Nat.mul_assoc] at this
              rw [Nat.pow_succ]
              exact Nat.le_trans k2 this
            have K3 : Hid (2 ^ (e + 1) * (k / 2) ≤ S.size) := by
              have : 2 ^ e * (2 * (k / 2)) ≤ 2 ^ e * k := Nat.mul_le_mul_left _ (by omega)
              rw [← Nat.mul_assoc] at this
              rw [Nat.pow_succ]
              exact Nat.le_trans this k3
            clear k2 k3 hpe
            go_wp2
            exact ⟨⟨e + 1, k / 2, by rw [show ((e + 1 : Nat) : Int) = (e : Int) + 1 from by omega], by rw [show ((k / 2 : Nat) : Int) = (k : Int) / 2 from by omega], by omega, K2.out, K3.out⟩, by simp [intOf]; omega⟩
          · obtain rfl : k = 1 := by omega
            have hz := HLE.out (e + 1) (by omega) (by rw [Nat.pow_succ]; omega) (by omega)
            have hp : A * (e + 1) ≤ 2000 * 9 := Nat.mul_le_mul (by omega) (by omega)
            have hz' : (Z : Int) ≤ (A : Int) * ((e : Int) + 1) + ((e : Int) + 1) := by
              have h := Int.ofNat_le.2 hz
              rw [Int.natCast_add, Int.natCast_mul, Int.natCast_add] at h
              exact h
            have hp' : (A : Int) * ((e : Int) + 1) ≤ 18000 := by
              have h := Int.ofNat_le.2 hp
              rw [Int.natCast_mul, Int.natCast_add] at h
              exact h
            have hp0 : 0 ≤ (A : Int) * ((e : Int) + 1) := Int.mul_nonneg (by omega) (by omega)
            clear k2 k3 hpe hz hp
            go_wp2_with (go_at_call 10; refine (HA.out w5).mono ?_; rintro e w6 ⟨rfl, hb6⟩; have HS7 := Lib.hid (HS6.out.on hb6); clear hb6 HA)
            go_ret
            exact ⟨ret_bool (by simp), HS7.out.low⟩
theorem tab_size (f : Nat → Nat) (y : Nat) (hy : y < 256) (hfy : f y ≠ 0) : (tabS f).length = off (fun x => if f x = 0 then 0 else 1) 256 := by
  unfold tabS
  rw [syms_length, come_off]
  refine off_congr fun x hx => ?_
  have h := (lens_all f y hy hfy).ne x
  have e : full f x = f x := by unfold full; rw [if_neg (by omega), if_pos hx]
  rw [e] at h
  by_cases q : f x = 0
  · rw [if_pos q, if_pos]
    by_cases q2 : lens f x = 0
    · exact q2
    · exact absurd q (h.1 q2)
  · rw [if_neg q, if_neg (h.2 q)]
theorem BestBeats_any (fi : Nat → Int) (w : World) : Calls Try.prog 7 #[.agg (ints 256 fi)] w fun e w' => e = .returned (.bool true) ∧ Below w.heap.size w w' := by
  rcases kinds fi with h | ⟨h, h0⟩ | ⟨h, y, hy, hfy⟩
  · exact beats_no fi (right_no fun h' => h h'.1) w
  · exact beats_no fi (right_no fun ⟨_, i, hi, hp⟩ => by rw [h0 i hi] at hp; omega) w
  · have hR := tab_right (fun i => (fi i).toNat) y hy hfy
    have hsz : (ByteArray.mk (tabS fun i => (fi i).toNat).toArray).size = (tabS fun i => (fi i).toNat).length := by
      show (tabS fun i => (fi i).toNat).toArray.size = _
      rw [List.size_toArray]
    obtain ⟨f, hf⟩ : ∃ f, f = fun i => (fi i).toNat := ⟨_, rfl⟩
    have hfi : ∀ i, i < 256 → fi i = f i := by rw [hf]; exact okf_nat h
    have hfl : ∀ i, i < 256 → f i ≤ 1099511627776 := by rw [hf]; exact okf_le h
    have hfy' : f y ≠ 0 := by rw [hf]; exact hfy
    have hrt := right_yes h hy hfy
    rw [← hf] at hR hsz
    clear hf hfy h
    obtain ⟨Z, hZ⟩ : ∃ Z, Z = off (fun x => f x * clen (tabC f) (tabS f) x) 256 := ⟨_, rfl⟩
    have hco : ∀ k w, Tbl k (tabC f) ⟨(tabS f).toArray⟩ w → Calls Try.prog 14 #[.agg (ints 256 fi), .pointer (some ⟨k, 0, none⟩)] w fun e w' => e = .returned (.tuple #[.int .i64 Z, .bool true]) ∧ Below w.heap.size w w' := fun k w ht =>
      Cost_any f fi hfi hfl k (tabC f) (tab_lt f y hy hfy') ⟨(tabS f).toArray⟩ hR Z true (.inl ⟨rfl, by rw [hZ], fun x hx hfx => (tab_mem f y hy hfy' x hx).2 hfx⟩) w ht
    refine beats_yes f fi hfi (tabC f) (tab_lt f y hy hfy') ⟨(tabS f).toArray⟩ (by rw [hsz]; exact hR.few) (by rw [hsz]; exact hR.some) hR Z hco 256 rfl ?_ (Table_yes f fi hfi hfl y hy hfy' _ rfl _ rfl) hrt w
    intro k hk hs hsum
    rw [hsz, tab_size f y hy hfy'] at hs
    have hb := lens_best f k hk hs
    rw [hZ, off_congr (g := fun x => f x * lens f x) fun x hx => by
      show f x * _ = _
      by_cases q : f x = 0
      · rw [q, Nat.zero_mul, Nat.zero_mul]
      · rw [clen_short f y hy hfy' hsum x hx q]]
    exact hb
end Go.Proofs.Ytlfnjdgfllhepaa
