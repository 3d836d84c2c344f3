/- The document's example answers true. -/
import Derived.Test.YthkjnhihpbomaaaDoorWalk2
import Derived.Test.YthkjnhihpbomaaaDoorWalk3
import Derived.Test.YthkjnhihpbomaaaDoorWalk4
namespace Go.Proofs.YthkjnhihpbomaaaDoor
open Go.RowKit

theorem ex_quote : quote ⟨#[195, 169, 92, 255]⟩ = [34, 92, 117, 123, 101, 57, 125, 92, 92, 92, 120, 102, 102, 34] := by decide +kernel
theorem ex_cut : cut ⟨#[195, 169]⟩ 1 = ⟨#[]⟩ := by
  have h : cutEnd ⟨#[195, 169]⟩ 1 = 0 := by decide +kernel
  unfold cut
  rw [h]
  rfl
theorem ex_fold : (fold ⟨#[195, 137, 97]⟩ == fold ⟨#[195, 169, 65]⟩) = true := by decide +kernel

set_option maxHeartbeats 1000000 in
theorem awake_any (w : World) (B : Nat) (hT : Tabs B w) : Calls Tryd.prog 11 #[] w fun e w' => e = .returned (.bool true) ∧ Below w.heap.size w w' := by
  have HT := Lib.hid hT
  clear hT
  have hq := Quote_any ⟨#[195, 169, 92, 255]⟩ (by decide) w B HT.out
  rw [ex_quote] at hq
  have HQ := Lib.hid hq
  clear hq
  go_enter Tryd.func11, Tryd.ntmps11
  go_wp2_with fail
  go_at_call 12
  refine HQ.out.mono ?_
  rintro e w1 ⟨rfl, h1⟩
  have HT1 := Lib.hid (HT.out.top.on h1)
  have hsz := h1.size
  have HB1 := Lib.hid h1
  clear h1
  have hc := Cut_any ⟨#[195, 169]⟩ (by decide) 1 w1
  rw [ex_cut] at hc
  have HC := Lib.hid hc
  clear hc
  go_wp2_with fail
  go_at_call 15
  refine HC.out.mono ?_
  rintro e w2 ⟨rfl, h2⟩
  have HT2 := Lib.hid (HT1.out.top.on h2)
  have hsz2 := h2.size
  have HB2 := Lib.hid (HB1.out.trans (h2.mono hsz))
  clear h2
  have hf := Same_any ⟨#[195, 137, 97]⟩ ⟨#[195, 169, 65]⟩ (by decide) (by decide) w2 _ HT2.out
  rw [ex_fold] at hf
  have HF := Lib.hid hf
  clear hf
  go_wp2_with fail
  go_at_call 19
  refine HF.out.mono ?_
  rintro e w3 ⟨rfl, h3⟩
  have HB3 := Lib.hid (HB2.out.trans (h3.mono (by omega)))
  clear h3
  go_wp2
  go_ret
  exact ⟨rfl, HB3.out⟩
end Go.Proofs.YthkjnhihpbomaaaDoor
