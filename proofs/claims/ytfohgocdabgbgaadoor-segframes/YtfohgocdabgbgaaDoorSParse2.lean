/- Parse, for every code and every body. -/
import Derived.Test.YtfohgocdabgbgaaDoorSSeg
namespace Go.Proofs.YtfohgocdabgbgaaDoor
open Go.RowKit

set_option maxHeartbeats 2000000 in
set_option maxRecDepth 100000 in
theorem Parse_read2 (Φ : Nat → Value → World → Prop) (hΦ : ∀ B V x x' k cs fz, Φ B V x → x.heap[k]? = some (.cells cs 87 fz) → But k x x' → Φ B V x') (z : Int) (s : ByteArray) (hz : refu z = 0) (hs : s.size ≤ 65533) (p : Nat × Nat) (w : World)
    (hseg : ∀ B k c x, B = w.heap.size → Below w.heap.size w x → Rdd B k c s (0, 0) x → Calls Tryd.prog 22 #[.pointer (some ⟨k, 0, none⟩), .int .i64 z] x fun e w' => ∃ V, e = .returned V ∧ Φ B V w' ∧ Rdd B k c s p w' ∧ Below B x w')
    (E : Nat) (hE : E = (rneed (decide (s.size - p.1 = 0)) 4 p).2) :
    Calls Tryd.prog 9 #[.int .i64 z, .string s] w fun e w' => PPost Φ E w e w' := by
  have HR := Lib.hid (refused_any z)
  rw [hz] at HR
  have e0 : ¬ (65533 : Int) < (s.size : Int) := by omega
  have HN := Lib.hid (New_any s)
  have HSG := Lib.hid (hseg w.heap.size (w.heap.size + 1) w.heap.size _ rfl ((below_new _ _).alloc (by rw [size_alloc]; omega) _) (Rdd.start s w))
  have HB0 : Hid (Below w.heap.size w ((w.alloc (.cells #[.string s, .int .i64 0] 124)).alloc (.cells #[.pointer (some ⟨w.heap.size, 0, none⟩), .int .i64 0] 87))) := (below_new _ _).alloc (by rw [size_alloc]; omega) _
  have HE := Lib.hid hE
  have hmx : s.size ≤ maxLen := by unfold maxLen; omega
  have HMX := Lib.hid hmx
  have HF := Lib.hid hΦ
  clear hz hE hmx hseg hs hΦ
  obtain ⟨W0, hW0⟩ : ∃ W0, W0 = ((w.alloc (.cells #[.string s, .int .i64 0] 124)).alloc (.cells #[.pointer (some ⟨w.heap.size, 0, none⟩), .int .i64 0] 87)) := ⟨_, rfl⟩
  rw [← hW0] at HSG HB0
  obtain ⟨b, hb⟩ : ∃ b, b = decide (s.size - p.1 = 0) := ⟨_, rfl⟩
  rw [← hb] at HE
  have e1 : (((s.size - p.1 : Nat) : Int) == 0) = b := by
    rw [hb]
    by_cases h : s.size - p.1 = 0
    · rw [h]; rfl
    · rw [decide_eq_false h, beq_eq_false_iff_ne]; omega
  have HE1 := Lib.hid e1
  clear hb e1
  generalize hL : (((s.size - p.1 : Nat) : Int)) = Lz at HE1
  have HLz := Lib.hid hL
  clear hL
  by_cases hE0 : E = 0
  · have e2 : ((E : Int) != 0) = false := by simp [hE0]
    have HPP : Hid (∀ V w', Φ w.heap.size V w' → Below w.heap.size w w' → PPost Φ E w (.returned (.tuple #[V, .int .i64 0])) w') := fun V w' h1 h2 => ⟨.inl ⟨hE0, V, rfl, h1⟩, h2⟩
    clear hE0
    generalize hEz : (E : Int) = Ez at *
    have HEz := Lib.hid hEz
    clear hEz
    have e3 := HE1.out
    go_enter Tryd.func9, Tryd.ntmps9
    go_wp2_with (first
      | (go_at_call 20; refine (HR.out w).mono ?_; rintro e w' ⟨rfl, rfl⟩; clear HR)
      | (go_at_call 21; refine (HN.out w).mono ?_; rintro e w1 ⟨rfl, rfl⟩; clear HN)
      | (go_at_call 22; rw [← hW0]; refine HSG.out.mono ?_; rintro e w2 ⟨V, rfl, hv, hr, hb⟩; have x0 := hr.cc; have H2 := Lib.hid hr; have HV2 := Lib.hid hv; have HB2 := Lib.hid (HB0.out.trans hb); clear hv hr hb)
      | (go_at_call 24; refine (Left_any w.heap.size s p.1 w2 H2.out.cur H2.out.le HMX.out).mono ?_; rintro e w3 ⟨rfl, n, rfl⟩; rw [HLz.out])
      | (go_at_call 23; refine (need_any w.heap.size (w.heap.size + 1) w.heap.size s p b 4 _ (H2.out.draw n)).mono ?_; rintro e w4 ⟨rfl, hr4, hb4, hk4⟩; have y0 := hr4.ce; rw [← HE.out, HEz.out] at y0; have HB4 := Lib.hid ((below_drawn HB2.out n).trans hb4); have HV4 := Lib.hid (HF.out _ _ w2 w4 _ _ _ HV2.out H2.out.box ⟨hk4.os, hk4.tape, hk4.output, hk4.size, hk4.block⟩); clear hr4 hb4 hk4))
    go_ret2
    exact HPP.out _ _ HV4.out HB4.out
  · have e2 : ((E : Int) != 0) = true := by simp; omega
    have HPP : Hid (∀ w', Below w.heap.size w w' → PPost Φ E w (.returned (.tuple #[.nilIface, .int .i64 (E : Nat)])) w') := fun w' h2 => ⟨.inr ⟨hE0, rfl⟩, h2⟩
    clear hE0
    generalize hEz : (E : Int) = Ez at *
    have HEz := Lib.hid hEz
    clear hEz
    have e3 := HE1.out
    go_enter Tryd.func9, Tryd.ntmps9
    go_wp2_with (first
      | (go_at_call 20; refine (HR.out w).mono ?_; rintro e w' ⟨rfl, rfl⟩; clear HR)
      | (go_at_call 21; refine (HN.out w).mono ?_; rintro e w1 ⟨rfl, rfl⟩; clear HN)
      | (go_at_call 22; rw [← hW0]; refine HSG.out.mono ?_; rintro e w2 ⟨V, rfl, hv, hr, hb⟩; have x0 := hr.cc; have H2 := Lib.hid hr; have HV2 := Lib.hid hv; have HB2 := Lib.hid (HB0.out.trans hb); clear hv hr hb)
      | (go_at_call 24; refine (Left_any w.heap.size s p.1 w2 H2.out.cur H2.out.le HMX.out).mono ?_; rintro e w3 ⟨rfl, n, rfl⟩; rw [HLz.out])
      | (go_at_call 23; refine (need_any w.heap.size (w.heap.size + 1) w.heap.size s p b 4 _ (H2.out.draw n)).mono ?_; rintro e w4 ⟨rfl, hr4, hb4, hk4⟩; have y0 := hr4.ce; rw [← HE.out, HEz.out] at y0; have HB4 := Lib.hid ((below_drawn HB2.out n).trans hb4); have HV4 := Lib.hid (HF.out _ _ w2 w4 _ _ _ HV2.out H2.out.box ⟨hk4.os, hk4.tape, hk4.output, hk4.size, hk4.block⟩); clear hr4 hb4 hk4))
    go_region
    go_wp2
    go_ret2
    exact HPP.out _ (below_drawn HB4.out 1)

/-- What Parse answers. -/
def ParseP (z : Int) (s : ByteArray) (w : World) (e : Ending) (w' : World) : Prop :=
  ((perr z s = 0 ∧ ∃ V, e = .returned (.tuple #[V, .int .i64 0]) ∧ SegV w.heap.size (rseg z s).1 V w') ∨ (perr z s ≠ 0 ∧ e = .returned (.tuple #[.nilIface, .int .i64 (perr z s : Nat)]))) ∧ Below w.heap.size w w'
theorem Parse_any (z : Int) (s : ByteArray) (w : World) (hT : Tab w) : Calls Tryd.prog 9 #[.int .i64 z, .string s] w fun e w' => ParseP z s w e w' := by
  by_cases h0 : refu z = 0
  · by_cases hs : 65533 < s.size
    · have he : perr z s = 4 := by unfold perr; rw [if_neg (by omega), if_pos hs]
      refine (Parse_long z s h0 hs w).mono fun e w' ⟨h1, h2⟩ => ⟨.inr ⟨by omega, by rw [he]; exact h1⟩, by rw [← h2]; exact Below.refl _ _⟩
    · have he : perr z s = (rneed (decide (s.size - (rseg z s).2.1 = 0)) 4 (rseg z s).2).2 := by unfold perr; rw [if_neg (by omega), if_neg hs]
      refine (Parse_read2 (fun B V x => SegV B (rseg z s).1 V x) (fun _ _ _ _ _ _ _ h hk hb => h.but hk hb) z s h0 (by omega) (rseg z s).2 w ?_ (perr z s) he).mono ?_
      · rintro B k c x rfl hb hr
        exact (segment_any z h0 _ k c s (by omega) hT.1 x (hT.on hb) hr).mono fun e w' ⟨V, a1, a2, a3, a4⟩ => ⟨V, a1, a2, a3, a4⟩
      · exact fun e w' h => h
  · have he : perr z s = refu z := by unfold perr; rw [if_pos h0]
    refine (Parse_refused z s h0 w).mono fun e w' ⟨h1, h2⟩ => ⟨.inr ⟨by rw [he]; exact h0, by rw [he]; exact h1⟩, by rw [← h2]; exact Below.refl _ _⟩
end Go.Proofs.YtfohgocdabgbgaaDoor
