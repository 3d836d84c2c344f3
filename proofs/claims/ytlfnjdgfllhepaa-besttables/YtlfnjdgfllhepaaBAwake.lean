/- The document's example of a table. -/
import Derived.Test.YtlfnjdgfllhepaaBTable
namespace Go.Proofs.Ytlfnjdgfllhepaa
open Go.RowKit

def f0 (i : Nat) : Nat := if i = 7 then 1 else if i = 9 then 2 else 0
def L0 (x : Nat) : Nat := if x = 9 then 1 else if x = 7 then 2 else if x = 256 then 2 else 0
def C0 (i : Nat) : Nat := if i < 2 then 1 else 0
theorem pick0 : pick (hstart (full f0)) = some (256, 7) := by kernel_rfl
theorem pick1 : pick ((hstart (full f0)).join 256 7) = some (256, 9) := by kernel_rfl
theorem pick2 : pick (((hstart (full f0)).join 256 7).join 256 9) = none := by kernel_rfl
theorem lens0 : lens f0 = L0 := by
  unfold lens
  rw [show (257 : Nat) = 255 + 1 + 1 from rfl, hrun_step pick0, hrun_step pick1, hrun_done pick2]
  funext x
  have hF : full f0 x = if x = 256 then 1 else if x = 7 then 1 else if x = 9 then 2 else 0 := by
    unfold full f0
    by_cases h1 : x = 256
    · rw [if_pos h1, if_pos h1]
    · rw [if_neg h1, if_neg h1]
      by_cases h2 : x < 256
      · rw [if_pos h2]
      · rw [if_neg h2, if_neg (by omega), if_neg (by omega)]
  show (if (if (if full f0 x = 0 then 999 else x) = 7 then 256 else (if full f0 x = 0 then 999 else x)) = 256 ∨ (if (if full f0 x = 0 then 999 else x) = 7 then 256 else (if full f0 x = 0 then 999 else x)) = 9 then (if (if full f0 x = 0 then 999 else x) = 256 ∨ (if full f0 x = 0 then 999 else x) = 7 then 0 + 1 else 0) + 1 else (if (if full f0 x = 0 then 999 else x) = 256 ∨ (if full f0 x = 0 then 999 else x) = 7 then 0 + 1 else 0)) = L0 x
  unfold L0
  by_cases h1 : x = 256
  · subst h1; rfl
  · by_cases h2 : x = 7
    · subst h2; rfl
    · by_cases h3 : x = 9
      · subst h3; rfl
      · have : full f0 x = 0 := by rw [hF, if_neg h1, if_neg h2, if_neg h3]
        simp [this, h1, h2, h3]
theorem great0 : great (m0 L0 257) 16 = 2 := by kernel_rfl
theorem m01 : m0 L0 257 1 = 1 := by kernel_rfl
theorem m02 : m0 L0 257 2 = 2 := by kernel_rfl
theorem m0_zero (i : Nat) (h : 2 < i) : m0 L0 257 i = 0 := m0_out L0 257 2 (fun x _ => by unfold L0; split <;> (try split) <;> (try split) <;> omega) i h
theorem tabC0 (i : Nat) (_h : i < 16) : tabC f0 i = C0 i := by
  unfold tabC
  rw [lens0, show (256 : Nat) = 16 + 240 from rfl, outr_off (by omega) 240 (fun i h _ => m0_zero i (by omega)), outr_done (by omega)]
  unfold fin C0
  rw [great0, m02]
  by_cases h1 : i + 1 = 2
  · rw [h1, upd_same, if_pos (by omega)]
  · rw [upd_ne _ _ h1]
    by_cases h2 : i = 0
    · subst h2; rw [m01, if_pos (by omega)]
    · rw [m0_zero _ (by omega), if_neg (by omega)]
theorem tabS0 : tabS f0 = [9, 7] := by
  unfold tabS
  rw [lens0]
  symm
  refine syms_unique L0 _ (fun b => ?_) ?_
  · have hb := b.toNat_lt
    rw [List.mem_cons, List.mem_singleton]
    unfold L0
    rw [← UInt8.toNat_inj, ← UInt8.toNat_inj]
    show (b.toNat = 9 ∨ b.toNat = 7) ↔ _
    by_cases h1 : b.toNat = 9
    · simp [h1]
    · by_cases h2 : b.toNat = 7
      · simp [h2]
      · have h3 : b.toNat ≠ 256 := by omega
        simp [h1, h2, h3]
  · simp only [List.pairwise_cons, List.mem_singleton, forall_eq, List.not_mem_nil, false_imp_iff, implies_true, List.Pairwise.nil, and_true]
    exact .inl (by decide)
theorem right0 : Right C0 [9, 7] := ⟨by decide, by decide, by decide, by decide, by decide⟩
theorem cnt0 : cnt (tabC f0) = cnt C0 := cnt_congr tabC0
theorem code0 : codeN C0 1 = 2 ∧ codeL C0 1 = 2 := by decide
end Go.Proofs.Ytlfnjdgfllhepaa
