/- A walk: whether any bytes are a text, a name, a note, is the document's. -/
import Derived.Test.YthkjnhihpbomaaaDoorAwake
import Derived.Test.YthkjnhihpbomaaaDoorTexts1
import Derived.Test.YthkjnhihpbomaaaDoorTexts2
namespace Go.Proofs.YthkjnhihpbomaaaDoor
open Go.RowKit

set_option maxHeartbeats 1000000 in
theorem GlyphTexts_any (s : ByteArray) (w : World) (B : Nat) (hT : Tabs B w) : Calls Tryd.prog 6 #[.string s] w fun e w' => e = .returned (.bool true) ∧ Below w.heap.size w w' := by
  have HA := Lib.hid (awake_any w B hT)
  have HT := Lib.hid hT
  clear hT
  by_cases ha : 5000 < (s.size : Int)
  · go_enter Tryd.func6, Tryd.ntmps6
    go_wp2_with (go_at_call 11; refine HA.out.mono ?_; rintro e w' ⟨rfl, hb1⟩)
    go_ret
    exact ⟨rfl, hb1⟩
  · clear HA
    go_enter Tryd.func6, Tryd.ntmps6
    go_wp2_with fail
    go_at_call 20
    refine (Note_any s (by omega) w _ HT.out).mono ?_
    rintro e w1 ⟨rfl, b1⟩
    have hs1 := b1.size
    have HT1 := Lib.hid (HT.out.top.on b1)
    have HB1 := Lib.hid b1
    clear b1
    go_wp2_with fail
    go_at_call 21
    refine (rNote_any s (by omega) w1).mono ?_
    rintro e w2 ⟨rfl, rfl⟩
    go_wp2_with fail
    go_at_call 11
    refine (awake_any w2 _ HT1.out).mono ?_
    rintro e w3 ⟨rfl, b3⟩
    have hs3 := b3.size
    have HT3 := Lib.hid (HT1.out.top.on b3)
    have HB3 := Lib.hid (HB1.out.trans (b3.mono (by omega)))
    clear b3
    go_wp2_with fail
    go_at_call 14
    refine (Valid_any s (by omega) w3 _ HT3.out).mono ?_
    rintro e w4 ⟨rfl, b4⟩
    have hs4 := b4.size
    have HB4 := Lib.hid (HB3.out.trans (b4.mono (by omega)))
    clear b4
    go_wp2_with fail
    go_at_call 22
    refine (rValid_any s (by omega) w4).mono ?_
    rintro e w5 ⟨rfl, rfl⟩
    go_wp2_with fail
    go_at_call 18
    refine (Name_any s (by omega) w5).mono ?_
    rintro e w6 ⟨rfl, b6⟩
    have HB6 := Lib.hid (HB4.out.trans (b6.mono (by omega)))
    clear b6
    go_wp2_with fail
    go_at_call 23
    refine (rName_any s (by omega) w6).mono ?_
    rintro e w7 ⟨rfl, rfl⟩
    go_wp2
    go_ret
    exact ⟨rfl, HB6.out⟩
end Go.Proofs.YthkjnhihpbomaaaDoor
