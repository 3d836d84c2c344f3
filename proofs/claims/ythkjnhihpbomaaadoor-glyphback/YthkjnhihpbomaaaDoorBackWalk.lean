/- A walk: what was quoted is unquoted as it was, whatever stands behind it, and is printable. -/
import Derived.Test.YthkjnhihpbomaaaDoorAwake
import Derived.Test.YthkjnhihpbomaaaDoorTexts1
import Derived.Test.YthkjnhihpbomaaaDoorUnq4
import Derived.Test.YthkjnhihpbomaaaDoorBack2
namespace Go.Proofs.YthkjnhihpbomaaaDoor
open Go.RowKit

theorem app_any (a : List UInt8) (b : ByteArray) : (⟨a.toArray⟩ : ByteArray) ++ b = ⟨(a ++ b.data.toList).toArray⟩ := by
  apply ByteArray.ext
  simp
theorem mk_size (l : List UInt8) : (⟨l.toArray⟩ : ByteArray).size = l.length := by rw [Lib.size_eq]
theorem unquote_quote (s b : ByteArray) (hs : s.size ≤ 5000) (hb : b.size ≤ 5000) (W : World) :
    Calls Tryd.prog 13 #[.string (⟨(quote s).toArray⟩ ++ b)] W fun e w' => e = .returned (.tuple #[.string s, .int .i64 ((⟨(quote s).toArray⟩ : ByteArray).size : Nat), .int .i64 0]) ∧ Below W.heap.size W w' := by
  have hq := quote_size s
  have hU := Unquote_any ⟨(quote s ++ b.data.toList).toArray⟩ (by rw [mk_size, List.length_append, ← Lib.size_eq]; omega) W
  rw [unq_quote] at hU
  rw [app_any, mk_size]
  exact hU

set_option maxHeartbeats 2000000 in
theorem GlyphBack_any (s b : ByteArray) (w : World) (B : Nat) (hT : Tabs B w) : Calls Tryd.prog 3 #[.string s, .string b] w fun e w' => e = .returned (.bool true) ∧ Below w.heap.size w w' := by
  have HA := Lib.hid (awake_any w B hT)
  have HT := Lib.hid hT
  clear hT
  by_cases ha : 5000 < (s.size : Int)
  · go_enter Tryd.func3, Tryd.ntmps3
    go_wp2_with (go_at_call 11; refine HA.out.mono ?_; rintro e w' ⟨rfl, hb1⟩)
    go_ret
    exact ⟨rfl, hb1⟩
  by_cases hb : 5000 < (b.size : Int)
  · go_enter Tryd.func3, Tryd.ntmps3
    go_wp2_with (go_at_call 11; refine HA.out.mono ?_; rintro e w' ⟨rfl, hb1⟩)
    go_ret
    exact ⟨rfl, hb1⟩
  · clear HA
    have hq0 := Quote_any s (by omega) w B HT.out
    have hU := fun W => unquote_quote s b (by omega) (by omega) W
    have hsz : (⟨(quote s).toArray⟩ : ByteArray).size ≤ 1000000 := by
      have := quote_size s
      rw [mk_size]
      omega
    have hV := fun W B' hT' => Valid_any ⟨(quote s).toArray⟩ hsz W B' hT'
    rw [valid_quote] at hV
    have hP : ∀ p, p < (⟨(quote s).toArray⟩ : ByteArray).size → 32 ≤ byt ⟨(quote s).toArray⟩ p ∧ byt ⟨(quote s).toArray⟩ p ≤ 126 := fun p hp => byt_print s p (by rwa [mk_size] at hp)
    generalize (⟨(quote s).toArray⟩ : ByteArray) = Q at hq0 hU hsz hV hP
    have H0 := Lib.hid hq0
    have HU := Lib.hid hU
    have HV := Lib.hid hV
    have HP := Lib.hid hP
    clear hq0 hU hV hP
    go_enter Tryd.func3, Tryd.ntmps3
    go_wp2_with fail
    go_at_call 12
    refine H0.out.mono ?_
    rintro e w1 ⟨rfl, b1⟩
    have hs1 := b1.size
    have HT1 := Lib.hid (HT.out.top.on b1)
    have HB1 := Lib.hid b1
    clear b1
    go_wp2_with fail
    go_at_call 13
    refine (HU.out w1).mono ?_
    rintro e w2 ⟨rfl, b2⟩
    have hs2 := b2.size
    have HT2 := Lib.hid (HT1.out.top.on b2)
    have HB2 := Lib.hid (HB1.out.trans (b2.mono (by omega)))
    clear b2 HT1 HB1
    go_wp2
    go_loop [9] (fun i => ∃ k : Nat, i = .int .i64 k ∧ k ≤ Q.size) (fun i => Q.size - (intOf i).toNat)
    case atStart => exact ⟨0, rfl, Nat.zero_le _⟩
    case round =>
      obtain ⟨k, rfl, hk⟩ := hrel
      by_cases hlt : k < Q.size
      · have hix := idx_byt Q k hlt (k : Int) rfl
        have hpr := HP.out k hlt
        generalize byt Q k = c at hix hpr
        obtain ⟨p1, p2⟩ := hpr
        have q1 : 32 ≤ (c : Int) := by omega
        have q2 : (c : Int) ≤ 126 := by omega
        go_wp2
        go_round
        case rel => exact ⟨k + 1, by go_num, by omega⟩
        case measure => simp [intOf]; omega
      · obtain rfl : k = Q.size := by omega
        go_wp2_with fail
        go_at_call 11
        refine (awake_any w2 _ HT2.out).mono ?_
        rintro e w3 ⟨rfl, b3⟩
        have HT3 := Lib.hid (HT2.out.top.on b3)
        have hs3 := b3.size
        have HB3 := Lib.hid (HB2.out.trans (b3.mono (by omega)))
        clear b3
        go_wp2_with fail
        go_at_call 14
        refine (HV.out w3 _ HT3.out).mono ?_
        rintro e w4 ⟨rfl, b4⟩
        have HB4 := Lib.hid (HB3.out.trans (b4.mono (by omega)))
        clear b4
        go_wp2
        go_ret
        exact ⟨rfl, HB4.out⟩
end Go.Proofs.YthkjnhihpbomaaaDoor
