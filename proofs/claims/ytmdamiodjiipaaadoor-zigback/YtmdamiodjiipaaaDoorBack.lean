/- Walks: Back undoes Zig, Swap undoes itself; blocks are the document's. -/
import Derived.Test.YtmdamiodjiipaaaDoorEq
namespace Go.Proofs.YtmdamiodjiipaaaDoor
open Go.RowKit

theorem size_box (w : World) (c : Array Value) (t : TypeId) : Below w.heap.size w (w.alloc (.cells c t)) := (Below.refl _ _).alloc (Nat.le_refl _) _

set_option maxHeartbeats 4000000 in
theorem ZigBack_any (f : Nat → Int) (w : World) (hT : Tab w) : Calls Tryd.prog 3 #[.agg (blk .i16 f)] w fun e w' => e = .returned (.bool true) ∧ Below w.heap.size w w' := by
  have hR : Row 23 .i16 w.heap.size f (w.alloc (.cells (blk .i16 f) 23)) := Row.new rfl
  have HB := Lib.hid (size_box w (blk .i16 f) 23)
  have HT := Lib.hid (hT.on HB.out)
  have HR := Lib.hid (bel_row hR)
  clear hT hR
  have e1 := eq23 (fun i => f (zz (sp i))) f (fun i hi => by rw [zz_sp i hi])
  have e2 := eq23 (fun i => f (sp (zz i))) f (fun i hi => by rw [sp_zz i hi])
  have e3 := eq23 (fun i => f (sw (sw i))) f (fun i hi => by rw [sw_sw i hi])
  have hg := guard23
  go_enter Tryd.func3, Tryd.ntmps3
  go_wp2
  have hnb := nonempty_bel
  refine wp_region_bel (Below.refl _ _) (by kernel_rfl) (by kernel_rfl) ?_
  repeat (first
    | refine wpQuiet_load_row 23 _ rfl (by rfl) w.heap.size rfl 23 _ (0, 0) _ HR.out Tryd.underlying23 rfl (sizeB23 _) ?_
    | quiet_step (first
        | (go_at_call 9; exact bel_same (awake_any _ (HT.out.bel _)))
        | (go_at_call 10; exact bel_of (Back16 _ _ (HT.out.bel _)))
        | (go_at_call 11; exact bel_of (Zig16 _ _ (HT.out.bel _)))
        | (go_at_call 12; exact bel_of (Swap16 _ _))))
  refine wpQuiet_nil ?_
  rintro _ ⟨x, rfl⟩
  go_wp2
  go_ret
  exact ⟨rfl, HB.out.trans (x.h.mono HB.out.size)⟩

set_option maxHeartbeats 4000000 in
theorem ZigBlocks_any (f : Nat → Int) (w : World) (hT : Tab w) : Calls Tryd.prog 6 #[.agg (blk .i16 f)] w fun e w' => e = .returned (.bool true) ∧ Below w.heap.size w w' := by
  have hR : Row 23 .i16 w.heap.size f (w.alloc (.cells (blk .i16 f) 23)) := Row.new rfl
  have HB := Lib.hid (size_box w (blk .i16 f) 23)
  have HT := Lib.hid (hT.on HB.out)
  have HR := Lib.hid (bel_row hR)
  clear hT hR
  have e1 := eq23 (fun i => f (zz i)) (fun i => f (zz i)) (fun i _ => rfl)
  have e2 := eq23 (fun i => f (sp (zz i))) f (fun i hi => by rw [sp_zz i hi])
  have e3 := eq23 (fun i => f (sw i)) (fun i => f (sw i)) (fun i _ => rfl)
  have hg := guard23
  go_enter Tryd.func6, Tryd.ntmps6
  go_wp2
  have hnb := nonempty_bel
  refine wp_region_bel (Below.refl _ _) (by kernel_rfl) (by kernel_rfl) ?_
  repeat (first
    | refine wpQuiet_load_row 23 _ rfl (by rfl) w.heap.size rfl 23 _ (0, 0) _ HR.out Tryd.underlying23 rfl (sizeB23 _) ?_
    | quiet_step (first
        | (go_at_call 9; exact bel_same (awake_any _ (HT.out.bel _)))
        | (go_at_call 10; exact bel_of (Back16 _ _ (HT.out.bel _)))
        | (go_at_call 11; exact bel_of (Zig16 _ _ (HT.out.bel _)))
        | (go_at_call 16; exact bel_of (RefZig _ _))
        | (go_at_call 17; exact bel_of (RefSwap _ _))
        | (go_at_call 12; exact bel_of (Swap16 _ _))))
  refine wpQuiet_nil ?_
  rintro _ ⟨x, rfl⟩
  go_wp2
  go_ret
  exact ⟨rfl, HB.out.trans (x.h.mono HB.out.size)⟩
end Go.Proofs.YtmdamiodjiipaaaDoor
