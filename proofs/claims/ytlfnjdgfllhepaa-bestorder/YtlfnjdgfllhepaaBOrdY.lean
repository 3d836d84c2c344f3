/- BestOrder, where the numbers are asked: its walk. -/
import Derived.Test.YtlfnjdgfllhepaaBOrder
namespace Go.Proofs.Ytlfnjdgfllhepaa
open Go.RowKit

set_option maxHeartbeats 2000000 in
set_option maxRecDepth 100000 in
theorem order_on (f : Nat → Nat) (fi : Nat → Int) (hfi : ∀ i, i < 256 → fi i = f i) (hf : ∀ i, i < 256 → f i ≤ 1099511627776) (a b : Nat) (ha : a < 256) (hb : b < 256) (hab : f b < f a) (hb0 : f b ≠ 0)
    (C : Nat → Nat) (hC : ∀ i, C i < 256) (S : ByteArray) (hS : S.size ≤ maxLen) (hRt : Right C S.data.toList) (ma : a.toUInt8 ∈ S.data.toList) (mb : b.toUInt8 ∈ S.data.toList) (N : Nat) (hN : N = 256) (hmn : off f N ≤ 2000 → clen C S.data.toList a ≤ clen C S.data.toList b)
    (hT : ∀ w, Calls Try.prog 8 #[.agg (ints 256 fi)] w fun e w' => e = .returned (.tuple #[.agg (cnt C), .string S, .int .i64 0]) ∧ Below w.heap.size w w')
    (hr : ∀ w, Calls Try.prog 9 #[.agg (ints 256 fi)] w fun e w' => e = .returned (.bool true) ∧ Below w.heap.size w w') (w : World) :
    Calls Try.prog 4 #[.agg (ints 256 fi), .int .u8 a, .int .u8 b] w fun e w' => e = .returned (.bool true) ∧ Below w.heap.size w w' := by
  obtain ⟨wb, hwb⟩ : ∃ wb, wb = w.alloc (.cells (ints 256 fi) 22) := ⟨_, rfl⟩
  have HS : Hid (ASt w.heap.size fi w wb) := hwb ▸ ASt.start fi w
  have HR := Lib.hid hr
  have HT := Lib.hid hT
  have HA := Lib.hid awake_any
  have HNw := Lib.hid (New_yes C hC S hS hRt)
  have HCa := Lib.hid (fun g w h => Code_mem g C hC S hRt a ha ma w h)
  have HCb := Lib.hid (fun g w h => Code_mem g C hC S hRt b hb mb w h)
  generalize codeN C (S.data.toList.idxOf a.toUInt8) = va at HCa
  generalize codeN C (S.data.toList.idxOf b.toUInt8) = vb at HCb
  have HI := Lib.hid (bel_ints HS.out.arg)
  have hnb := nonempty_bel
  have ha' : (a : Int) < 256 := by omega
  have hb' : (b : Int) < 256 := by omega
  have x0 : ∀ x : Bel wb, x.W.cell? ⟨w.heap.size, a, none⟩ = some (.int .i64 (f a : Int)) := fun x => by rw [← hfi a ha]; exact (HS.out.arg.on x.h).cell ha
  have x1 : ∀ x : Bel wb, x.W.cell? ⟨w.heap.size, b, none⟩ = some (.int .i64 (f b : Int)) := fun x => by rw [← hfi b hb]; exact (HS.out.arg.on x.h).cell hb
  have e1 : ¬ (f a : Int) ≤ (f b : Int) := by omega
  have e2 : ((f b : Int) == 0) = false := by rw [beq_eq_false_iff_ne]; omega
  have HFI := Lib.hid hfi
  have HF := Lib.hid hf
  have HMN := Lib.hid hmn
  have HN := Lib.hid hN
  have hz23 := zero23
  clear hr hT hC hS hRt ma mb hmn hN hfi hf hab hb0
  generalize clen C S.data.toList a = la at *
  generalize clen C S.data.toList b = lb at *
  generalize hfa : f a = fa at *
  generalize hfb : f b = fb at *
  clear hfa hfb
  go_enter Try.func4, Try.ntmps4
  go_upto_region 1 with fail
  rw [← hwb]
  clear hwb
  refine wp_region_bel (w := wb) (Below.refl _ _) (by kernel_rfl) (by kernel_rfl) ?_
  refine wpQuiet_ints _ rfl (by rfl) w.heap.size rfl fi HI.out ?_
  repeat quiet_step (first | (go_at_call 9; exact bel_of (HR.out _)))
  refine wpQuiet_nil ?_
  rintro _ ⟨z, rfl⟩
  have HZ := Lib.hid (HS.out.on z.h)
  obtain ⟨w1, hw1⟩ : ∃ w1, w1 = z.W := ⟨_, rfl⟩
  rw [← hw1] at HZ ⊢
  clear hw1 z x0 x1 hnb HI HR HS e1 e2
  go_wp2
  go_loop [7, 8] (fun v i => ∃ n : Nat, n ≤ 256 ∧ i = .int .i64 n ∧ v = .int .i64 (off f n : Nat) ∧ off f n ≤ 4000) (fun _ i => 256 - (intOf i).toNat)
  case atStart => exact ⟨0, by omega, rfl, rfl, Nat.zero_le _⟩
  case round =>
    obtain ⟨n, hn, rfl, rfl, hbd⟩ := hrel
    by_cases hlt : n < 256
    · have x0 := HZ.out.arg.cell (i := n) hlt
      rw [HFI.out n hlt] at x0
      have HE : Hid (off f (n + 1) = off f n + f n) := rfl
      generalize off f n = A at *
      generalize f n = q at *
      by_cases h1 : 2000 < q
      · have h1' : (2000 : Int) < (q : Int) := by omega
        go_wp2_with (go_at_call 10; refine (HA.out w1).mono ?_; rintro e w2 ⟨rfl, hb2⟩; have HS2 := Lib.hid (HZ.out.on hb2); clear hb2 HA)
        go_ret
        exact ⟨rfl, HS2.out.low⟩
      · have h1' : ¬ (2000 : Int) < (q : Int) := by omega
        by_cases h2 : 2000 < A
        · have h2' : (2000 : Int) < (A : Int) := by omega
          go_wp2_with (go_at_call 10; refine (HA.out w1).mono ?_; rintro e w2 ⟨rfl, hb2⟩; have HS2 := Lib.hid (HZ.out.on hb2); clear hb2 HA)
          go_ret
          exact ⟨rfl, HS2.out.low⟩
        · have h2' : ¬ (2000 : Int) < (A : Int) := by omega
          go_wp2
          go_round
          case rel => exact ⟨n + 1, by omega, by go_num, by rw [HE.out, Int.natCast_add], by rw [HE.out]; omega⟩
          case measure => simp [intOf]; omega
    · obtain rfl : n = 256 := by omega
      clear hlt
      rw [HN.out] at HMN
      generalize off f 256 = A at *
      by_cases h2 : 2000 < A
      · have h2' : (2000 : Int) < (A : Int) := by omega
        go_wp2_with (go_at_call 10; refine (HA.out w1).mono ?_; rintro e w2 ⟨rfl, hb2⟩; have HS2 := Lib.hid (HZ.out.on hb2); clear hb2 HA)
        go_ret
        exact ⟨rfl, HS2.out.low⟩
      · have h2' : ¬ (2000 : Int) < (A : Int) := by omega
        have hll := HMN.out (by omega)
        have hll' : (la : Int) ≤ (lb : Int) := by omega
        go_wp2_with (first
          | refine wpList_load_row rfl 22 _ rfl w.heap.size rfl 22 _ (0, 0) _ HZ.out.arg Try.underlying22 rfl (size22i _) ?_
          | (go_at_call 8; refine (HT.out w1).mono ?_; rintro e w2 ⟨rfl, hb2⟩; have HS2 := Lib.hid (HZ.out.on hb2); clear hb2 HT)
          | (refine wpList_store_row rfl 23 _ _ rfl w2.heap.size _ rfl rfl 23 _ (heap_alloc_new _ _) (size22 _) ((cnt_size _).trans (cnt_size _).symm) (cnt_one _) ?_; have HS3 := Lib.hid (HS2.out.on (below_row w2 (cnt fun _ => 0) (cnt C) 23)); have HC3 : Hid (RowC w2.heap.size C ((w2.alloc (.cells (cnt fun _ => 0) 23)).setRow w2.heap.size (cnt C))) := RowC.setRow (c := fun _ => 0) (heap_alloc_new _ _))
          | refine wpList_load_row rfl 23 _ rfl w2.heap.size rfl 23 _ (0, 0) _ HC3.out Try.underlying23 rfl (size22 _) ?_
          | (go_at_call 11; refine (HNw.out _).mono ?_; rintro e w4 ⟨g, rfl, hg, _, hb4⟩; have HG := Lib.hid hg; have HS4 := Lib.hid (HS3.out.on hb4); clear hg hb4 HNw)
          | (go_at_call 12; first
            | (refine (HCa.out g w4 HG.out).mono ?_; rintro e w5 ⟨rfl, rfl⟩; clear HCa)
            | (refine (HCb.out g w4 HG.out).mono ?_; rintro e w5 ⟨rfl, rfl⟩; clear HCb))
          | (go_at_call 10; refine (HA.out w4).mono ?_; rintro e w6 ⟨rfl, hb6⟩; have HS6 := Lib.hid (HS4.out.on hb6); clear hb6 HA))
        go_ret
        exact ⟨rfl, HS6.out.low⟩
theorem BestOrder_any (fi : Nat → Int) (a b : Nat) (w : World) (ha : a < 256) (hb : b < 256) :
    Calls Try.prog 4 #[.agg (ints 256 fi), .int .u8 a, .int .u8 b] w fun e w' => e = .returned (.bool true) ∧ Below w.heap.size w w' := by
  rcases kinds fi with h | ⟨h, h0⟩ | ⟨h, y, hy, hfy⟩
  · exact order_skip fi a b ha hb false (right_no fun h' => h h'.1) (.inl rfl) w
  · exact order_skip fi a b ha hb false (right_no fun ⟨_, i, hi, hp⟩ => by rw [h0 i hi] at hp; omega) (.inl rfl) w
  · by_cases h1 : fi a ≤ fi b
    · exact order_skip fi a b ha hb true (right_yes h hy hfy) (.inr (.inl h1)) w
    · by_cases h2 : fi b = 0
      · exact order_skip fi a b ha hb true (right_yes h hy hfy) (.inr (.inr h2)) w
      · have pa := h a ha
        have pb := h b hb
        have fa : (fi a).toNat ≠ 0 := by omega
        have fb : (fi b).toNat ≠ 0 := by omega
        refine order_on (fun i => (fi i).toNat) fi (okf_nat h) (okf_le h) a b ha hb (by show (fi b).toNat < (fi a).toNat; omega) fb (tabC fun i => (fi i).toNat) (tab_lt _ y hy hfy) ⟨(tabS fun i => (fi i).toNat).toArray⟩ (tabS_size _ y hy hfy) (tab_right _ y hy hfy)
          ((tab_mem _ y hy hfy a ha).2 fa) ((tab_mem _ y hy hfy b hb).2 fb) 256 rfl ?_ (Table_yes _ fi (okf_nat h) (okf_le h) y hy hfy _ rfl _ rfl) (right_yes h hy hfy) w
        intro hs
        show clen (tabC fun i => (fi i).toNat) (tabS fun i => (fi i).toNat) a ≤ clen (tabC fun i => (fi i).toNat) (tabS fun i => (fi i).toNat) b
        rw [clen_short _ y hy hfy hs a ha fa, clen_short _ y hy hfy hs b hb fb]
        have ea : full (fun i => (fi i).toNat) a = (fi a).toNat := by unfold full; rw [if_neg (by omega), if_pos ha]
        have eb : full (fun i => (fi i).toNat) b = (fi b).toNat := by unfold full; rw [if_neg (by omega), if_pos hb]
        exact lens_mono _ a b (by rw [ea]; exact fa) (by rw [eb]; exact fb) (.inl (by rw [ea, eb]; omega))
end Go.Proofs.Ytlfnjdgfllhepaa
