/- A walk: which place comes when is the document's. -/
import Derived.Test.YtmdamiodjiipaaaDoorEq
namespace Go.Proofs.YtmdamiodjiipaaaDoor
open Go.RowKit

set_option maxHeartbeats 4000000 in
theorem ZigOrders_any (k : Int) (w : World) (hT : Tab w) : Calls Tryd.prog 5 #[.int .i64 k] w fun e w' => e = .returned (.bool true) ∧ Below w.heap.size w w' := by
  have HT := Lib.hid hT
  clear hT
  by_cases hin : k < 0 ∨ 63 < k
  · have HIN := Lib.hid hin
    have hz : (decide (k < 0) || decide (63 < k)) = true := by simpa using hin
    go_enter Tryd.func5, Tryd.ntmps5
    go_wp2_with fail
    go_at_call 13
    refine (Order_any _).mono ?_
    rintro e w1 ⟨rfl, b1⟩
    have HB1 := Lib.hid b1
    clear b1
    go_wp2_with (refine wpList_store_fresh .i64 zi _ rfl 27 _ _ rfl rfl rfl (sizeB27 _) (by kernel_rfl) ?_; intro w2 r2 b2; have HB2 := Lib.hid (HB1.out.trans (b2.mono HB1.out.size)); clear b2 r2)
    go_at_call 14
    refine (At_no k HIN.out w2).mono ?_
    rintro e w' ⟨rfl, rfl⟩
    go_wp2_with fail
    go_at_call 15
    refine (Spot_no k HIN.out w2 (HT.out.on HB2.out)).mono ?_
    rintro e w' ⟨rfl, rfl⟩
    rcases hin with h | h
    · go_wp2_with (go_at_call 9; refine (awake_any w2 (HT.out.on HB2.out)).mono ?_; rintro e w' ⟨rfl, rfl⟩)
      go_ret
      exact ⟨rfl, HB2.out⟩
    · have h0 : ¬ k < 0 := by omega
      go_wp2_with (go_at_call 9; refine (awake_any w2 (HT.out.on HB2.out)).mono ?_; rintro e w' ⟨rfl, rfl⟩)
      go_ret
      exact ⟨rfl, HB2.out⟩
  · obtain ⟨n, rfl⟩ := Int.eq_ofNat_of_zero_le (show 0 ≤ k by omega)
    have hn : n < 64 := by omega
    clear hin
    go_enter Tryd.func5, Tryd.ntmps5
    go_wp2_with fail
    go_at_call 13
    refine (Order_any _).mono ?_
    rintro e w1 ⟨rfl, b1⟩
    have HB1 := Lib.hid b1
    clear b1
    go_wp2_with (refine wpList_store_fresh .i64 zi _ rfl 27 _ _ rfl rfl rfl (sizeB27 _) (by kernel_rfl) ?_; intro w2 r2 b2; have HB2 := Lib.hid (HB1.out.trans (b2.mono HB1.out.size)); have HR2 := Lib.hid r2; clear b2 r2)
    go_at_call 14
    refine (At_yes n hn w2 (HT.out.on HB2.out)).mono ?_
    rintro e w' ⟨rfl, rfl⟩
    go_wp2_with fail
    go_at_call 15
    refine (Spot_yes n hn w2 (HT.out.on HB2.out)).mono ?_
    rintro e w' ⟨rfl, rfl⟩
    have x1 := HR2.out.cell hn
    have x2 := HR2.out.cell (sp_lt n hn)
    have hs := sp_lt n hn
    unfold zi at x1 x2
    rw [zz_sp n hn] at x2
    generalize zz n = p at *
    generalize sp n = q at *
    go_wp2_with (go_at_call 9; refine (awake_any w2 (HT.out.on HB2.out)).mono ?_; rintro e w' ⟨rfl, rfl⟩)
    go_ret
    exact ⟨rfl, HB2.out⟩
end Go.Proofs.YtmdamiodjiipaaaDoor
