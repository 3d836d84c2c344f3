/- Walk of package frame: check. -/
import Derived.Test.YtpnkjcahhpbpfaaFChk
namespace Go.Proofs.Ytpnkjcahhpbpfaa
open Go.RowKit

set_option maxHeartbeats 4000000 in
theorem check_any (x y : Int) (v : Value) (l : List FP) (hl : l.length ≤ 1000) (w : World) (hv : RowV 2 cellsF v l w) :
    Calls Try.prog 20 #[.int .i64 x, .int .i64 y, v] w fun e w' => e = .returned (.int .i64 (chk x y l : Nat)) ∧ Below w.heap.size w w' := by
  have HC := Lib.hid (ContainsF v l w hl hv)
  have HT := Lib.hid fun W hW (h : okF l) => together_any v l W hl h (hv.on cellsF_size hW)
  obtain ⟨p, m, c, rfl, hm⟩ := hv.shape
  have HM := Lib.hid hm.out
  have hlm : l.length = m := hm.out.symm
  clear hv hm
  unfold chk
  rw [hlm]
  rw [hlm] at hl
  clear hlm
  by_cases c1 : x < 1
  · rw [if_pos (.inl c1)]
    clear HC HT
    go_enter Try.func20, Try.ntmps20
    go_wp2
    go_ret
    exact ⟨rfl, Below.refl _ _⟩
  by_cases c2 : y < 1
  · rw [if_pos (.inr (.inl c2))]
    replace c1 : 1 ≤ x := by omega
    clear HC HT
    go_enter Try.func20, Try.ntmps20
    go_wp2
    go_ret
    exact ⟨rfl, Below.refl _ _⟩
  by_cases c3 : m = 0
  · rw [if_pos (.inr (.inr (.inl c3)))]
    replace c1 : 1 ≤ x := by omega
    replace c2 : 1 ≤ y := by omega
    have c3' : ((m : Int) == 0) = true := by rw [beq_iff_eq]; omega
    clear HC HT c3
    go_enter Try.func20, Try.ntmps20
    go_wp2
    go_ret
    exact ⟨rfl, Below.refl _ _⟩
  have c3' : ((m : Int) == 0) = false := by rw [beq_eq_false_iff_ne]; omega
  by_cases c4 : l.any wrongP = true
  · rw [if_pos (.inr (.inr (.inr c4)))]
    replace c1 : 1 ≤ x := by omega
    replace c2 : 1 ≤ y := by omega
    rw [c4] at HC
    clear HT c3 c4
    go_enter Try.func20, Try.ntmps20
    go_wp2_with (go_at_call 29; refine HC.out.mono ?_; rintro e w2 ⟨rfl, hb⟩; have HB := Lib.hid hb; clear hb HC)
    go_ret
    exact ⟨rfl, HB.out⟩
  have c4' : l.any wrongP = false := by simpa using c4
  have HOK := Lib.hid (okF_of c4')
  have HQ : Hid ((if x < 1 ∨ y < 1 ∨ m = 0 ∨ l.any wrongP = true then 7 else if 16384 < x ∨ 16384 < y then 11 else if 4 < m ∨ 1 < m ∧ 10 < sumP l then 12 else 0) = (if 16384 < x ∨ 16384 < y then 11 else if 4 < m ∨ 1 < m ∧ 10 < sumP l then 12 else 0 : Nat)) := by
    unfold Hid
    rw [if_neg (by rintro (h | h | h | h) <;> first | omega | exact c4 h)]
  rw [HQ.out]
  rw [c4'] at HC
  replace c1 : 1 ≤ x := by omega
  replace c2 : 1 ≤ y := by omega
  clear HQ c4 c4'
  by_cases c5 : 16384 < x
  · rw [if_pos (.inl c5)]
    clear HT c3
    go_enter Try.func20, Try.ntmps20
    go_wp2_with (go_at_call 29; refine HC.out.mono ?_; rintro e w2 ⟨rfl, hb⟩; have HB := Lib.hid hb; clear hb HC)
    go_ret
    exact ⟨rfl, HB.out⟩
  by_cases c6 : 16384 < y
  · rw [if_pos (.inr c6)]
    replace c5 : x ≤ 16384 := by omega
    clear HT c3
    go_enter Try.func20, Try.ntmps20
    go_wp2_with (go_at_call 29; refine HC.out.mono ?_; rintro e w2 ⟨rfl, hb⟩; have HB := Lib.hid hb; clear hb HC)
    go_ret
    exact ⟨rfl, HB.out⟩
  rw [if_neg (by omega)]
  replace c5 : x ≤ 16384 := by omega
  replace c6 : y ≤ 16384 := by omega
  by_cases c7 : 4 < m
  · rw [if_pos (.inl c7)]
    have c7' : (4 : Int) < (m : Int) := by omega
    clear HT c3 c7
    go_enter Try.func20, Try.ntmps20
    go_wp2_with (go_at_call 29; refine HC.out.mono ?_; rintro e w2 ⟨rfl, hb⟩; have HB := Lib.hid hb; clear hb HC)
    go_ret
    exact ⟨rfl, HB.out⟩
  have c7' : (m : Int) ≤ 4 := by omega
  by_cases c8 : 1 < m
  · have c8' : (1 : Int) < (m : Int) := by omega
    have HTT := Lib.hid fun W hW => HT.out W hW HOK.out
    generalize sumP l = S at *
    by_cases c9 : 10 < S
    · rw [if_pos (.inr ⟨c8, c9⟩)]
      clear HT c3 c7 c8
      go_enter Try.func20, Try.ntmps20
      go_wp2_with (first
        | (go_at_call 29; refine HC.out.mono ?_; rintro e w2 ⟨rfl, hb⟩; have HB := Lib.hid hb; clear hb HC)
        | (go_at_call 31; refine (HTT.out _ HB.out).mono ?_; rintro e w3 ⟨rfl, hb⟩; have HB3 := Lib.hid (HB.out.trans (hb.mono HB.out.size)); clear hb HTT))
      go_ret
      exact ⟨rfl, HB3.out⟩
    · rw [if_neg (by omega)]
      replace c9 : S ≤ 10 := by omega
      clear HT c3 c7 c8
      go_enter Try.func20, Try.ntmps20
      go_wp2_with (first
        | (go_at_call 29; refine HC.out.mono ?_; rintro e w2 ⟨rfl, hb⟩; have HB := Lib.hid hb; clear hb HC)
        | (go_at_call 31; refine (HTT.out _ HB.out).mono ?_; rintro e w3 ⟨rfl, hb⟩; have HB3 := Lib.hid (HB.out.trans (hb.mono HB.out.size)); clear hb HTT))
      go_ret
      exact ⟨rfl, HB3.out⟩
  · rw [if_neg (by omega)]
    have c8' : (m : Int) ≤ 1 := by omega
    clear HT c3 c7 c8
    go_enter Try.func20, Try.ntmps20
    go_wp2_with (go_at_call 29; refine HC.out.mono ?_; rintro e w2 ⟨rfl, hb⟩; have HB := Lib.hid hb; clear hb HC)
    go_ret
    exact ⟨rfl, HB.out⟩
end Go.Proofs.Ytpnkjcahhpbpfaa
