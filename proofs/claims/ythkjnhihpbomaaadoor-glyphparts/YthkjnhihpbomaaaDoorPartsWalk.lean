/- A walk: fold, count and cut of any bytes are the document's. -/
import Derived.Test.YthkjnhihpbomaaaDoorAwake
import Derived.Test.YthkjnhihpbomaaaDoorRefFold2
import Derived.Test.YthkjnhihpbomaaaDoorRefWalk
namespace Go.Proofs.YthkjnhihpbomaaaDoor
open Go.RowKit

set_option maxHeartbeats 1000000 in
theorem GlyphParts_any (s : ByteArray) (n : Int) (w : World) (B : Nat) (hT : Tabs B w) (_hn : -9223372036854775808 ≤ n ∧ n ≤ 9223372036854775807) : Calls Tryd.prog 7 #[.string s, .int .i64 n] w fun e w' => e = .returned (.bool true) ∧ Below w.heap.size w w' := by
  have HA := Lib.hid (awake_any w B hT)
  have HT := Lib.hid hT
  clear hT _hn
  by_cases ha : 5000 < (s.size : Int)
  · go_enter Tryd.func7, Tryd.ntmps7
    go_wp2_with (go_at_call 11; refine HA.out.mono ?_; rintro e w' ⟨rfl, hb1⟩)
    go_ret
    exact ⟨rfl, hb1⟩
  · go_enter Tryd.func7, Tryd.ntmps7
    go_wp2_with fail
    go_at_call 11
    refine HA.out.mono ?_
    rintro e w1 ⟨rfl, b1⟩
    have hs1 := b1.size
    have HT1 := Lib.hid (HT.out.top.on b1)
    have HB1 := Lib.hid b1
    clear b1
    go_wp2_with fail
    go_at_call 17
    refine (Fold_any s (by omega) w1 _ HT1.out).mono ?_
    rintro e w2 ⟨rfl, b2⟩
    have hs2 := b2.size
    have HB2 := Lib.hid (HB1.out.trans (b2.mono hs1))
    clear b2
    go_wp2_with fail
    go_at_call 24
    refine (rFold_any s (by omega) w2).mono ?_
    rintro e w3 ⟨rfl, b3⟩
    have hs3 := b3.size
    have HB3 := Lib.hid (HB2.out.trans (b3.mono (by omega)))
    clear b3
    go_wp2_with fail
    go_at_call 16
    refine (Count_any s (by omega) w3).mono ?_
    rintro e w4 ⟨rfl, b4⟩
    have hs4 := b4.size
    have HB4 := Lib.hid (HB3.out.trans (b4.mono (by omega)))
    clear b4
    go_wp2_with fail
    go_at_call 25
    refine (rCount_any s (by omega) w4).mono ?_
    rintro e w5 ⟨rfl, rfl⟩
    go_wp2_with fail
    go_at_call 15
    refine (Cut_any s (by omega) n w5).mono ?_
    rintro e w6 ⟨rfl, b6⟩
    have HB6 := Lib.hid (HB4.out.trans (b6.mono (by omega)))
    clear b6
    go_wp2_with fail
    go_at_call 26
    refine (rCut_any s (by omega) n w6).mono ?_
    rintro e w7 ⟨rfl, rfl⟩
    go_wp2
    go_ret
    exact ⟨rfl, HB6.out⟩
end Go.Proofs.YthkjnhihpbomaaaDoor
