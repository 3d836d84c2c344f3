/- A walk: what is quoted at any text's beginning is what the document says, or the place and the error. -/
import Derived.Test.YthkjnhihpbomaaaDoorAwake
import Derived.Test.YthkjnhihpbomaaaDoorRefUnq2
namespace Go.Proofs.YthkjnhihpbomaaaDoor
open Go.RowKit

set_option maxHeartbeats 1000000 in
theorem GlyphReads_any (s : ByteArray) (w : World) (B : Nat) (hT : Tabs B w) : Calls Tryd.prog 10 #[.string s] w fun e w' => e = .returned (.bool true) ∧ Below w.heap.size w w' := by
  have HA := Lib.hid (awake_any w B hT)
  have HT := Lib.hid hT
  clear hT
  by_cases ha : 5000 < (s.size : Int)
  · go_enter Tryd.func10, Tryd.ntmps10
    go_wp2_with (go_at_call 11; refine HA.out.mono ?_; rintro e w' ⟨rfl, hb1⟩)
    go_ret
    exact ⟨rfl, hb1⟩
  · clear HA
    have U1 := fun W => Unquote_any s (by omega) W
    have U2 := fun W => rUnquote_any s (by omega) W
    generalize unq s = U at U1 U2
    obtain ⟨o, p, er⟩ := U
    simp only at U1 U2
    have H1 := Lib.hid U1
    have H2 := Lib.hid U2
    clear U1 U2
    go_enter Tryd.func10, Tryd.ntmps10
    go_wp2_with fail
    go_at_call 13
    refine (H1.out w).mono ?_
    rintro e w1 ⟨rfl, b1⟩
    have hs1 := b1.size
    have HT1 := Lib.hid (HT.out.top.on b1)
    have HB1 := Lib.hid b1
    clear b1
    go_wp2_with fail
    go_at_call 28
    refine (H2.out w1).mono ?_
    rintro e w2 ⟨rfl, b2⟩
    have hs2 := b2.size
    have HT2 := Lib.hid (HT1.out.top.on b2)
    have HB2 := Lib.hid (HB1.out.trans (b2.mono (by omega)))
    clear b2 HT1 HB1
    go_wp2_with fail
    go_at_call 11
    refine (awake_any w2 _ HT2.out).mono ?_
    rintro e w3 ⟨rfl, b3⟩
    have HB3 := Lib.hid (HB2.out.trans (b3.mono (by omega)))
    clear b3
    go_wp2
    go_ret
    exact ⟨rfl, HB3.out⟩
end Go.Proofs.YthkjnhihpbomaaaDoor
