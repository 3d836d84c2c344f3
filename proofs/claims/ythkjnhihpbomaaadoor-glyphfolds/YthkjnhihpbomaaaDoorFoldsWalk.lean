/- A walk: a fold's fold is itself, with as many runes; whether it is a name, a text, doesn't change. -/
import Derived.Test.YthkjnhihpbomaaaDoorAwake
import Derived.Test.YthkjnhihpbomaaaDoorTexts1
import Derived.Test.YthkjnhihpbomaaaDoorTok2
namespace Go.Proofs.YthkjnhihpbomaaaDoor
open Go.RowKit

set_option maxHeartbeats 1000000 in
theorem GlyphFolds_any (s : ByteArray) (w : World) (B : Nat) (hT : Tabs B w) : Calls Tryd.prog 5 #[.string s] w fun e w' => e = .returned (.bool true) ∧ Below w.heap.size w w' := by
  have HA := Lib.hid (awake_any w B hT)
  have HT := Lib.hid hT
  clear hT
  by_cases ha : 5000 < (s.size : Int)
  · go_enter Tryd.func5, Tryd.ntmps5
    go_wp2_with (go_at_call 11; refine HA.out.mono ?_; rintro e w' ⟨rfl, hb1⟩)
    go_ret
    exact ⟨rfl, hb1⟩
  · clear HA
    have hf0 := Fold_any s (by omega) w B HT.out
    have hsz : (⟨(fold s).toArray⟩ : ByteArray).size ≤ 1000000 := by
      have := fold_size s
      simp [ByteArray.size]
      omega
    have F2 := fun W B' hT' => Fold_any ⟨(fold s).toArray⟩ hsz W B' hT'
    have C1 := fun W => Count_any ⟨(fold s).toArray⟩ hsz W
    have N1 := fun W => Name_any ⟨(fold s).toArray⟩ hsz W
    have S1 := fun W B' hT' => Same_any s ⟨(fold s).toArray⟩ (by omega) hsz W B' hT'
    have V1 := fun W B' hT' => Valid_any ⟨(fold s).toArray⟩ hsz W B' hT'
    rw [fold_fold] at F2 S1
    rw [count_fold] at C1
    rw [name_fold] at N1
    rw [valid_fold] at V1
    generalize (⟨(fold s).toArray⟩ : ByteArray) = f at hf0 F2 C1 N1 S1 V1 hsz
    have H0 := Lib.hid hf0
    have HF2 := Lib.hid F2
    have HC1 := Lib.hid C1
    have HN1 := Lib.hid N1
    have HS1 := Lib.hid S1
    have HV1 := Lib.hid V1
    clear hf0 F2 C1 N1 S1 V1
    go_enter Tryd.func5, Tryd.ntmps5
    go_wp2_with fail
    go_at_call 17
    refine H0.out.mono ?_
    rintro e w1 ⟨rfl, b1⟩
    have hs1 := b1.size
    have HT1 := Lib.hid (HT.out.top.on b1)
    have HB1 := Lib.hid b1
    clear b1
    go_wp2_with fail
    go_at_call 11
    refine (awake_any w1 _ HT1.out).mono ?_
    rintro e w2 ⟨rfl, b2⟩
    have hs2 := b2.size
    have HT2 := Lib.hid (HT1.out.top.on b2)
    have HB2 := Lib.hid (HB1.out.trans (b2.mono (by omega)))
    clear b2 HT1 HB1
    go_wp2_with fail
    go_at_call 17
    refine (HF2.out w2 _ HT2.out).mono ?_
    rintro e w3 ⟨rfl, b3⟩
    have hs3 := b3.size
    have HT3 := Lib.hid (HT2.out.top.on b3)
    have HB3 := Lib.hid (HB2.out.trans (b3.mono (by omega)))
    clear b3 HT2 HB2
    go_wp2_with fail
    go_at_call 16
    refine (HC1.out w3).mono ?_
    rintro e w4 ⟨rfl, b4⟩
    have hs4 := b4.size
    have HT4 := Lib.hid (HT3.out.top.on b4)
    have HB4 := Lib.hid (HB3.out.trans (b4.mono (by omega)))
    clear b4 HT3 HB3
    go_wp2_with fail
    go_at_call 16
    refine (Count_any s (by omega) w4).mono ?_
    rintro e w5 ⟨rfl, b5⟩
    have hs5 := b5.size
    have HT5 := Lib.hid (HT4.out.top.on b5)
    have HB5 := Lib.hid (HB4.out.trans (b5.mono (by omega)))
    clear b5 HT4 HB4
    go_wp2_with fail
    go_at_call 18
    refine (HN1.out w5).mono ?_
    rintro e w6 ⟨rfl, b6⟩
    have hs6 := b6.size
    have HT6 := Lib.hid (HT5.out.top.on b6)
    have HB6 := Lib.hid (HB5.out.trans (b6.mono (by omega)))
    clear b6 HT5 HB5
    go_wp2_with fail
    go_at_call 18
    refine (Name_any s (by omega) w6).mono ?_
    rintro e w7 ⟨rfl, b7⟩
    have hs7 := b7.size
    have HT7 := Lib.hid (HT6.out.top.on b7)
    have HB7 := Lib.hid (HB6.out.trans (b7.mono (by omega)))
    clear b7 HT6 HB6
    go_wp2_with fail
    go_at_call 19
    refine (HS1.out w7 _ HT7.out).mono ?_
    rintro e w8 ⟨rfl, b8⟩
    have hs8 := b8.size
    have HT8 := Lib.hid (HT7.out.top.on b8)
    have HB8 := Lib.hid (HB7.out.trans (b8.mono (by omega)))
    clear b8 HT7 HB7
    go_wp2_with fail
    go_at_call 14
    refine (HV1.out w8 _ HT8.out).mono ?_
    rintro e w9 ⟨rfl, b9⟩
    have hs9 := b9.size
    have HT9 := Lib.hid (HT8.out.top.on b9)
    have HB9 := Lib.hid (HB8.out.trans (b9.mono (by omega)))
    clear b9 HT8 HB8
    go_wp2_with fail
    go_at_call 14
    refine (Valid_any s (by omega) w9 _ HT9.out).mono ?_
    rintro e w10 ⟨rfl, b10⟩
    have hs10 := b10.size
    have HT10 := Lib.hid (HT9.out.top.on b10)
    have HB10 := Lib.hid (HB9.out.trans (b10.mono (by omega)))
    clear b10 HT9 HB9
    go_wp2
    go_ret
    refine ⟨ret_bool ?_, HB10.out⟩
    simp
end Go.Proofs.YthkjnhihpbomaaaDoor
