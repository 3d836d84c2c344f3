/- Walk of the law's own: awake. -/
import Derived.Test.YtpnkjcahhpbpfaaFNew
import Derived.Test.YtpnkjcahhpbpfaaFEq
namespace Go.Proofs.Ytpnkjcahhpbpfaa
open Go.RowKit

/-- The document's example. -/
def exL : List FP := [(2, 2), (1, 1), (1, 1)]
theorem ex_chk : chkN 17 9 exL = 0 := by decide
theorem ex_ok : OkF 17 9 exL := OkF.of (by decide)
theorem ex_grid : gridAt (grids 17 9 exL) 0 = (4, 2, 3, 2) := by decide
theorem ex_units : uA 17 exL = 2 ∧ uD 9 exL = 1 := by decide
theorem ex_row (w : World) : OwnR 62 2 cellsF w.heap.size (.slice (some ⟨w.heap.size, 0, none⟩) 3 3) exL (w.alloc (.cells #[.int .i64 2, .int .i64 2, .int .i64 1, .int .i64 1, .int .i64 1, .int .i64 1] 62)) := by
  have h := World.ownsRow_lit (base := w.heap.size) (e := 62) (size := 2) w #[.int .i64 2, .int .i64 2, .int .i64 1, .int .i64 1, .int .i64 1, .int .i64 1] 3 (Nat.le_refl _) (by unfold maxLen; omega) rfl
  exact h
set_option maxRecDepth 100000 in
set_option maxHeartbeats 4000000 in
theorem awake_any (w : World) : Calls Try.prog 7 #[] w fun e w' => e = .returned (.bool true) ∧ Below w.heap.size w w' := by
  have HN := Lib.hid fun v x (hv : RowV 2 cellsF v exL x) => (New_any 17 9 v exL (by decide) x hv).mono fun e w' (h : _ ∧ _) => (show (∃ k, e = .returned (.tuple #[.pointer (some ⟨k, 0, none⟩), .int .i64 0]) ∧ x.heap.size ≤ k ∧ FrP k 17 9 exL w') ∧ Below x.heap.size x w' from ⟨by
    rcases h.1 with h1 | h1
    · exact h1.2
    · exact absurd ex_chk h1.1, h.2⟩)
  have g34 := guard34
  have s34 : ∀ w, (Op.equalIn 10000 34 (.agg #[.int .i64 4, .int .i64 2, .int .i64 3, .int .i64 2]) (.agg #[.int .i64 4, .int .i64 2, .int .i64 3, .int .i64 2])).run Try.prog w = .ok true w := self_G (4, 2, 3, 2)
  go_enter Try.func7, Try.ntmps7
  go_wp2_with (first
    | (go_at_call 8; refine (HN.out _ _ ((ex_row w).view cellsF_size)).mono ?_; rintro e w1 ⟨⟨k, rfl, hk, hf⟩, hb⟩; have HF := Lib.hid hf; have HB := Lib.hid ((below_new w _).trans (hb.mono (below_new w _).size)); clear hb HN hf hk)
    | (go_at_call 11; obtain ⟨p, g, h1, h2, h3⟩ := HF.out; have hc := Grid_any k _ _ _ _ p g (asF exL) (grids 17 9 exL) (by decide) (by decide) 0 _ h1 h2 h3; rw [ex_grid] at hc; refine hc.mono ?_; clear hc; rintro e w2 ⟨rfl, hb⟩; have HF2 := Lib.hid (HF.out.on hb); have HB2 := Lib.hid (HB.out.trans (hb.mono HB.out.size)); clear hb h1 h2 h3 HF HB)
    | (refine wpList_freshE rfl 34 _ _ rfl w2 _ rfl (cellsG (4, 2, 3, 2)) rfl rfl (size34G _) rfl (cellsG_one _) ?_; intro y hy hby; have HY := Lib.hid hy; have HF3 := Lib.hid (HF2.out.on hby); have HB3 := Lib.hid (HB2.out.trans (hby.mono HB2.out.size)); clear hy hby HF2 HB2)
    | (go_at_call 15; obtain ⟨p, g, h1, h2, h3⟩ := HF3.out; have hc := Units_any k _ _ _ _ p g _ h1; rw [ex_units.1, ex_units.2] at hc; refine hc.mono ?_; clear hc; rintro e w4 ⟨rfl, hb⟩; have HY4 := Lib.hid ((hb.block _ (Array.getElem?_eq_some_iff.1 HY.out).1).trans HY.out); have HB4 := Lib.hid (HB3.out.trans (hb.mono HB3.out.size)); clear hb h1 h2 h3 HF3 HB3 HY)
    | (refine wpList_load_w (by rfl) 34 _ rfl Try.underlying34 rfl w2.heap.size 0 rfl #[.int .i64 4, .int .i64 2, .int .i64 3, .int .i64 2] (size34G (4, 2, 3, 2)) (fun j _ => by rw [Nat.zero_add]; exact Lib.cell_of_heap HY4.out j) ?_))
  go_ret
  exact ⟨rfl, HB4.out⟩
end Go.Proofs.Ytpnkjcahhpbpfaa
