/- A walk: any bytes, printed, are the document's. -/
import Derived.Test.YthkjnhihpbomaaaDoorAwake
import Derived.Test.YthkjnhihpbomaaaDoorRefQuote
namespace Go.Proofs.YthkjnhihpbomaaaDoor
open Go.RowKit

set_option maxHeartbeats 1000000 in
theorem GlyphQuotes_any (s : ByteArray) (w : World) (B : Nat) (hT : Tabs B w) : Calls Tryd.prog 9 #[.string s] w fun e w' => e = .returned (.bool true) ∧ Below w.heap.size w w' := by
  have HA := Lib.hid (awake_any w B hT)
  have HT := Lib.hid hT
  clear hT
  by_cases ha : 5000 < (s.size : Int)
  · go_enter Tryd.func9, Tryd.ntmps9
    go_wp2_with (go_at_call 11; refine HA.out.mono ?_; rintro e w' ⟨rfl, hb1⟩)
    go_ret
    exact ⟨rfl, hb1⟩
  · go_enter Tryd.func9, Tryd.ntmps9
    go_wp2_with fail
    go_at_call 11
    refine HA.out.mono ?_
    rintro e w1 ⟨rfl, b1⟩
    have hs1 := b1.size
    have HT1 := Lib.hid (HT.out.top.on b1)
    have HB1 := Lib.hid b1
    clear b1
    go_wp2_with fail
    go_at_call 12
    refine (Quote_any s (by omega) w1 _ HT1.out).mono ?_
    rintro e w2 ⟨rfl, b2⟩
    have hs2 := b2.size
    have HB2 := Lib.hid (HB1.out.trans (b2.mono hs1))
    clear b2
    go_wp2_with fail
    go_at_call 27
    refine (rQuote_any s (by omega) w2).mono ?_
    rintro e w3 ⟨rfl, b3⟩
    have HB3 := Lib.hid (HB2.out.trans (b3.mono (by omega)))
    clear b3
    go_wp2
    go_ret
    exact ⟨rfl, HB3.out⟩
end Go.Proofs.YthkjnhihpbomaaaDoor
