/- Parse: which codes are refused; a body that is read, whatever reads it. -/
import Derived.Test.YtfohgocdabgbgaaDoorSRd
namespace Go.Proofs.YtfohgocdabgbgaaDoor
open Go.RowKit

/-- Codes whose bodies are read. -/
def knownZ (z : Int) : Prop := z = 196 ∨ z = 218 ∨ z = 219 ∨ z = 221 ∨ z = 254 ∨ (192 ≤ z ∧ z ≤ 194) ∨ (224 ≤ z ∧ z ≤ 239)
/-- Why a code is refused. -/
def refu (z : Int) : Nat := if z < 192 ∨ 254 < z then 3 else if 208 ≤ z ∧ z ≤ 217 then 1 else if z = 196 ∨ z = 218 ∨ z = 219 ∨ z = 221 ∨ z = 254 ∨ (192 ≤ z ∧ z ≤ 194) ∨ (224 ≤ z ∧ z ≤ 239) then 0 else 6

set_option maxHeartbeats 1000000 in
theorem known_yes (z : Int) (h : z = 196 ∨ z = 218 ∨ z = 219 ∨ z = 221 ∨ z = 254) (w : World) : Calls Tryd.prog 42 #[.int .i64 z] w fun e w' => e = .returned (.bool true) ∧ w = w' := by
  rcases h with rfl | rfl | rfl | rfl | rfl
  all_goals
    go_enter Tryd.func42, Tryd.ntmps42
    go_wp2
    go_ret
    exact ⟨rfl, rfl⟩
set_option maxHeartbeats 1000000 in
theorem known_else (z : Int) (h : ¬ (z = 196 ∨ z = 218 ∨ z = 219 ∨ z = 221 ∨ z = 254)) (R : Bool) (hR : R = decide ((192 ≤ z ∧ z ≤ 194) ∨ (224 ≤ z ∧ z ≤ 239))) (w : World) : Calls Tryd.prog 42 #[.int .i64 z] w fun e w' => e = .returned (.bool R) ∧ w = w' := by
  have e1 : (z == 196) = false := by rw [beq_eq_false_iff_ne]; omega
  have e2 : (z == 218) = false := by rw [beq_eq_false_iff_ne]; omega
  have e3 : (z == 219) = false := by rw [beq_eq_false_iff_ne]; omega
  have e4 : (z == 221) = false := by rw [beq_eq_false_iff_ne]; omega
  have e5 : (z == 254) = false := by rw [beq_eq_false_iff_ne]; omega
  have HR := Lib.hid hR
  clear hR h
  by_cases h1 : 192 ≤ z ∧ z ≤ 194
  · have HE : Hid (R = true) := by unfold Hid; rw [HR.out]; simp [h1]
    have HW := Lib.hid (within_any z 192 194 true (decide_eq_true h1).symm)
    rw [HE.out]
    clear h1
    go_enter Tryd.func42, Tryd.ntmps42
    go_wp2_with (go_at_call 41; refine (HW.out w).mono ?_; rintro e w' ⟨rfl, rfl⟩)
    go_ret
    exact ⟨rfl, rfl⟩
  · have HW := Lib.hid (within_any z 192 194 false (decide_eq_false h1).symm)
    have HW2 := Lib.hid (within_any z 224 239 R (by rw [HR.out]; simp [h1]))
    clear h1
    go_enter Tryd.func42, Tryd.ntmps42
    go_wp2_with (first
      | (go_at_call 41; refine (HW.out w).mono ?_; rintro e w' ⟨rfl, rfl⟩; clear HW)
      | (go_at_call 41; refine (HW2.out w).mono ?_; rintro e w' ⟨rfl, rfl⟩; clear HW2))
    go_ret
    exact ⟨rfl, rfl⟩
theorem known_any (z : Int) (R : Bool) (hR : R = decide (z = 196 ∨ z = 218 ∨ z = 219 ∨ z = 221 ∨ z = 254 ∨ (192 ≤ z ∧ z ≤ 194) ∨ (224 ≤ z ∧ z ≤ 239))) (w : World) : Calls Tryd.prog 42 #[.int .i64 z] w fun e w' => e = .returned (.bool R) ∧ w = w' := by
  by_cases h : z = 196 ∨ z = 218 ∨ z = 219 ∨ z = 221 ∨ z = 254
  · rw [hR, decide_eq_true (by omega)]
    exact known_yes z h w
  · refine known_else z h R ?_ w
    rw [hR]
    exact decide_eq_decide.2 (by omega)

set_option maxHeartbeats 1000000 in
theorem refused_any (z : Int) (w : World) : Calls Tryd.prog 20 #[.int .i64 z] w fun e w' => e = .returned (.int .i64 (refu z : Nat)) ∧ w = w' := by
  by_cases h1 : z < 192 ∨ 254 < z
  · have HW := Lib.hid (within_any z 192 254 false (decide_eq_false (by omega)).symm)
    rw [show refu z = 3 from if_pos h1]
    clear h1
    go_enter Tryd.func20, Tryd.ntmps20
    go_wp2_with (go_at_call 41; refine (HW.out w).mono ?_; rintro e w' ⟨rfl, rfl⟩; clear HW)
    go_ret
    exact ⟨rfl, rfl⟩
  · have HW := Lib.hid (within_any z 192 254 true (decide_eq_true (by omega)).symm)
    by_cases h2 : 208 ≤ z ∧ z ≤ 217
    · have HW2 := Lib.hid (within_any z 208 217 true (decide_eq_true h2).symm)
      rw [show refu z = 1 from (if_neg h1).trans (if_pos h2)]
      clear h1 h2
      go_enter Tryd.func20, Tryd.ntmps20
      go_wp2_with (first
        | (go_at_call 41; refine (HW.out w).mono ?_; rintro e w' ⟨rfl, rfl⟩; clear HW)
        | (go_at_call 41; refine (HW2.out w).mono ?_; rintro e w' ⟨rfl, rfl⟩; clear HW2))
      go_ret
      exact ⟨rfl, rfl⟩
    · have HW2 := Lib.hid (within_any z 208 217 false (decide_eq_false h2).symm)
      by_cases h3 : z = 196 ∨ z = 218 ∨ z = 219 ∨ z = 221 ∨ z = 254 ∨ (192 ≤ z ∧ z ≤ 194) ∨ (224 ≤ z ∧ z ≤ 239)
      · have HK := Lib.hid (known_any z true (decide_eq_true h3).symm)
        rw [show refu z = 0 from (if_neg h1).trans ((if_neg h2).trans (if_pos h3))]
        clear h1 h2 h3
        go_enter Tryd.func20, Tryd.ntmps20
        go_wp2_with (first
          | (go_at_call 41; refine (HW.out w).mono ?_; rintro e w' ⟨rfl, rfl⟩; clear HW)
          | (go_at_call 41; refine (HW2.out w).mono ?_; rintro e w' ⟨rfl, rfl⟩; clear HW2)
          | (go_at_call 42; refine (HK.out w).mono ?_; rintro e w' ⟨rfl, rfl⟩; clear HK))
        go_ret
        exact ⟨rfl, rfl⟩
      · have HK := Lib.hid (known_any z false (decide_eq_false h3).symm)
        rw [show refu z = 6 from (if_neg h1).trans ((if_neg h2).trans (if_neg h3))]
        clear h1 h2 h3
        go_enter Tryd.func20, Tryd.ntmps20
        go_wp2_with (first
          | (go_at_call 41; refine (HW.out w).mono ?_; rintro e w' ⟨rfl, rfl⟩; clear HW)
          | (go_at_call 41; refine (HW2.out w).mono ?_; rintro e w' ⟨rfl, rfl⟩; clear HW2)
          | (go_at_call 42; refine (HK.out w).mono ?_; rintro e w' ⟨rfl, rfl⟩; clear HK))
        go_ret
        exact ⟨rfl, rfl⟩

set_option maxHeartbeats 1000000 in
/-- A code that is refused. -/
theorem Parse_refused (z : Int) (s : ByteArray) (h : refu z ≠ 0) (w : World) :
    Calls Tryd.prog 9 #[.int .i64 z, .string s] w fun e w' => e = .returned (.tuple #[.nilIface, .int .i64 (refu z : Nat)]) ∧ w = w' := by
  have HR := Lib.hid (refused_any z)
  have e0 : ((refu z : Int) != 0) = true := by simp; omega
  clear h
  generalize (refu z : Int) = r at *
  go_enter Tryd.func9, Tryd.ntmps9
  go_wp2_with (go_at_call 20; refine (HR.out w).mono ?_; rintro e w' ⟨rfl, rfl⟩; clear HR)
  go_ret2
  exact ⟨rfl, rfl⟩
set_option maxHeartbeats 1000000 in
/-- A body that is too long. -/
theorem Parse_long (z : Int) (s : ByteArray) (h : refu z = 0) (hs : 65533 < s.size) (w : World) :
    Calls Tryd.prog 9 #[.int .i64 z, .string s] w fun e w' => e = .returned (.tuple #[.nilIface, .int .i64 4]) ∧ w = w' := by
  have HR := Lib.hid (refused_any z)
  rw [h] at HR
  have e0 : (65533 : Int) < (s.size : Int) := by omega
  clear h
  go_enter Tryd.func9, Tryd.ntmps9
  go_wp2_with (go_at_call 20; refine (HR.out w).mono ?_; rintro e w' ⟨rfl, rfl⟩; clear HR)
  go_ret2
  exact ⟨rfl, rfl⟩

theorem Rdd.start (s : ByteArray) (w : World) : Rdd w.heap.size (w.heap.size + 1) w.heap.size s (0, 0) ((w.alloc (.cells #[.string s, .int .i64 0] 124)).alloc (.cells #[.pointer (some ⟨w.heap.size, 0, none⟩), .int .i64 0] 87)) := by
  refine ⟨?_, ?_, by omega, Nat.le_refl _, Nat.zero_le _⟩
  · have h := heap_alloc_new (w.alloc (.cells #[.string s, .int .i64 0] 124)) (.cells #[.pointer (some ⟨w.heap.size, 0, none⟩), .int .i64 0] 87)
    rw [size_alloc] at h
    exact h
  · unfold Cur
    rw [Below.heap_alloc _ _ _ (by rw [size_alloc]; omega)]
    exact heap_alloc_new _ _
/-- What Parse answers, once a body is read: the segment, or the first error. -/
def PPost (Φ : Nat → Value → World → Prop) (E : Nat) (w : World) (e : Ending) (w' : World) : Prop :=
  ((E = 0 ∧ ∃ V, e = .returned (.tuple #[V, .int .i64 0]) ∧ Φ w.heap.size V w') ∨ (E ≠ 0 ∧ e = .returned (.tuple #[.nilIface, .int .i64 (E : Nat)]))) ∧ Below w.heap.size w w'
set_option maxHeartbeats 2000000 in
set_option maxRecDepth 100000 in
theorem Parse_read (Φ : Nat → Value → World → Prop) (hΦ : ∀ B V x x' k cs fz, Φ B V x → x.heap[k]? = some (.cells cs 87 fz) → But k x x' → Φ B V x') (z : Int) (s : ByteArray) (hz : refu z = 0) (hs : s.size ≤ 65533) (p : Nat × Nat)
    (hseg : ∀ B k c x, Rdd B k c s (0, 0) x → Calls Tryd.prog 22 #[.pointer (some ⟨k, 0, none⟩), .int .i64 z] x fun e w' => ∃ V, e = .returned V ∧ Φ B V w' ∧ Rdd B k c s p w' ∧ Below B x w')
    (E : Nat) (hE : E = (rneed (decide (s.size - p.1 = 0)) 4 p).2) (w : World) :
    Calls Tryd.prog 9 #[.int .i64 z, .string s] w fun e w' => PPost Φ E w e w' := by
  have HR := Lib.hid (refused_any z)
  rw [hz] at HR
  have e0 : ¬ (65533 : Int) < (s.size : Int) := by omega
  have HN := Lib.hid (New_any s)
  have HSG := Lib.hid (hseg w.heap.size (w.heap.size + 1) w.heap.size _ (Rdd.start s w))
  have HB0 : Hid (Below w.heap.size w ((w.alloc (.cells #[.string s, .int .i64 0] 124)).alloc (.cells #[.pointer (some ⟨w.heap.size, 0, none⟩), .int .i64 0] 87))) := (below_new _ _).alloc (by rw [size_alloc]; omega) _
  have HE := Lib.hid hE
  have hmx : s.size ≤ maxLen := by unfold maxLen; omega
  have HMX := Lib.hid hmx
  have HF := Lib.hid hΦ
  clear hz hE hmx hseg hs hΦ
  obtain ⟨W0, hW0⟩ : ∃ W0, W0 = ((w.alloc (.cells #[.string s, .int .i64 0] 124)).alloc (.cells #[.pointer (some ⟨w.heap.size, 0, none⟩), .int .i64 0] 87)) := ⟨_, rfl⟩
  rw [← hW0] at HSG HB0
  obtain ⟨b, hb⟩ : ∃ b, b = decide (s.size - p.1 = 0) := ⟨_, rfl⟩
  rw [← hb] at HE
  have e1 : (((s.size - p.1 : Nat) : Int) == 0) = b := by
    rw [hb]
    by_cases h : s.size - p.1 = 0
    · rw [h]; rfl
    · rw [decide_eq_false h, beq_eq_false_iff_ne]; omega
  have HE1 := Lib.hid e1
  clear hb e1
  generalize hL : (((s.size - p.1 : Nat) : Int)) = Lz at HE1
  have HLz := Lib.hid hL
  clear hL
  by_cases hE0 : E = 0
  · have e2 : ((E : Int) != 0) = false := by simp [hE0]
    have HPP : Hid (∀ V w', Φ w.heap.size V w' → Below w.heap.size w w' → PPost Φ E w (.returned (.tuple #[V, .int .i64 0])) w') := fun V w' h1 h2 => ⟨.inl ⟨hE0, V, rfl, h1⟩, h2⟩
    clear hE0
    generalize hEz : (E : Int) = Ez at *
    have HEz := Lib.hid hEz
    clear hEz
    have e3 := HE1.out
    go_enter Tryd.func9, Tryd.ntmps9
    go_wp2_with (first
      | (go_at_call 20; refine (HR.out w).mono ?_; rintro e w' ⟨rfl, rfl⟩; clear HR)
      | (go_at_call 21; refine (HN.out w).mono ?_; rintro e w1 ⟨rfl, rfl⟩; clear HN)
      | (go_at_call 22; rw [← hW0]; refine HSG.out.mono ?_; rintro e w2 ⟨V, rfl, hv, hr, hb⟩; have x0 := hr.cc; have H2 := Lib.hid hr; have HV2 := Lib.hid hv; have HB2 := Lib.hid (HB0.out.trans hb); clear hv hr hb)
      | (go_at_call 24; refine (Left_any w.heap.size s p.1 w2 H2.out.cur H2.out.le HMX.out).mono ?_; rintro e w3 ⟨rfl, n, rfl⟩; rw [HLz.out])
      | (go_at_call 23; refine (need_any w.heap.size (w.heap.size + 1) w.heap.size s p b 4 _ (H2.out.draw n)).mono ?_; rintro e w4 ⟨rfl, hr4, hb4, hk4⟩; have y0 := hr4.ce; rw [← HE.out, HEz.out] at y0; have HB4 := Lib.hid ((below_drawn HB2.out n).trans hb4); have HV4 := Lib.hid (HF.out _ _ w2 w4 _ _ _ HV2.out H2.out.box ⟨hk4.os, hk4.tape, hk4.output, hk4.size, hk4.block⟩); clear hr4 hb4 hk4))
    go_ret2
    exact HPP.out _ _ HV4.out HB4.out
  · have e2 : ((E : Int) != 0) = true := by simp; omega
    have HPP : Hid (∀ w', Below w.heap.size w w' → PPost Φ E w (.returned (.tuple #[.nilIface, .int .i64 (E : Nat)])) w') := fun w' h2 => ⟨.inr ⟨hE0, rfl⟩, h2⟩
    clear hE0
    generalize hEz : (E : Int) = Ez at *
    have HEz := Lib.hid hEz
    clear hEz
    have e3 := HE1.out
    go_enter Tryd.func9, Tryd.ntmps9
    go_wp2_with (first
      | (go_at_call 20; refine (HR.out w).mono ?_; rintro e w' ⟨rfl, rfl⟩; clear HR)
      | (go_at_call 21; refine (HN.out w).mono ?_; rintro e w1 ⟨rfl, rfl⟩; clear HN)
      | (go_at_call 22; rw [← hW0]; refine HSG.out.mono ?_; rintro e w2 ⟨V, rfl, hv, hr, hb⟩; have x0 := hr.cc; have H2 := Lib.hid hr; have HV2 := Lib.hid hv; have HB2 := Lib.hid (HB0.out.trans hb); clear hv hr hb)
      | (go_at_call 24; refine (Left_any w.heap.size s p.1 w2 H2.out.cur H2.out.le HMX.out).mono ?_; rintro e w3 ⟨rfl, n, rfl⟩; rw [HLz.out])
      | (go_at_call 23; refine (need_any w.heap.size (w.heap.size + 1) w.heap.size s p b 4 _ (H2.out.draw n)).mono ?_; rintro e w4 ⟨rfl, hr4, hb4, hk4⟩; have y0 := hr4.ce; rw [← HE.out, HEz.out] at y0; have HB4 := Lib.hid ((below_drawn HB2.out n).trans hb4); have HV4 := Lib.hid (HF.out _ _ w2 w4 _ _ _ HV2.out H2.out.box ⟨hk4.os, hk4.tape, hk4.output, hk4.size, hk4.block⟩); clear hr4 hb4 hk4))
    go_region
    go_wp2
    go_ret2
    exact HPP.out _ (below_drawn HB4.out 1)
end Go.Proofs.YtfohgocdabgbgaaDoor
