/- What an argument's reading says: an array of 16 counts, a byte. -/
import Derived.Test.YtlfnjdgfllhepaaHRow
import Derived.Test.YtlfnjdgfllhepaaViews
import Derived.ProofKit
import Derived.OpenShut
import Derived.Carry
import Derived.Deep.DeepHandedRow
namespace Go.Proofs.Ytlfnjdgfllhepaa
open Go.ChangeShapes Go.WideShapes Go.ChangeAt Go.RowKit

theorem cells22 : Try.prog.cellsOf 23 = 16 := by kernel_rfl
theorem byte_nat {z : Int} (h : (Lit.int .u8 z).wf = true) : ∃ x : Nat, z = x ∧ x < 256 := by
  have h1 : IntKind.u8.min ≤ z ∧ z ≤ IntKind.u8.max := by simpa [Lit.wf] using h
  have e1 : IntKind.u8.min = 0 := by decide
  have e2 : IntKind.u8.max = 255 := by decide
  rw [e1, e2] at h1
  exact ⟨z.toNat, by omega, by omega⟩
/-- Counts that came in. -/
theorem open_cnt {H : Type} {enc : TypeId × Value → H} {w : World} {base b0 : Nat} {sp : Nat → Bool} {held : Bool} {r : Reach} {v : Value} {d : DataW H} {ps : List MemPlace}
    (hval : Value.okWide Try.prog w r b0 23 v) (hd : DataW.Trod enc Try.prog w base sp held 23 v d ps) : ∃ c : Nat → Nat, v = .agg (cnt c) ∧ ∀ i, c i < 256 := by
  simp only [Value.okWide, Try.underlying23] at hval
  obtain ⟨cs, rfl, hsz, _⟩ := hval
  obtain ⟨fuel, hf⟩ := hd
  obtain ⟨xs, m, _, _, hlen, hxl, hall⟩ := DataW.trod_array Try.underlying23 hf
  rw [cells5] at hall
  simp only [Nat.mul_one, Value.cells] at hall
  rw [cells22] at hsz
  have hcell : ∀ i, i < 16 → ∃ n : Nat, cs[i]? = some (.int .u8 (n : Int)) ∧ n < 256 := by
    intro i hi
    have h1 := hall i hi
    have hx : ∃ x, xs[i]? = some x := ⟨xs[i]'(by omega), by simp [hxl, hi]⟩
    obtain ⟨x, hx⟩ := hx
    rw [hx] at h1
    obtain ⟨z, hn, _, hw⟩ := DataW.trod_int Try.underlying5 h1
    obtain ⟨n, rfl, hlt⟩ := byte_nat hw
    refine ⟨n, ?_, hlt⟩
    have hi' : i < cs.toList.length := by simp [hsz, hi]
    rw [List.drop_eq_getElem_cons hi'] at hn
    simp at hn
    simp [hsz, hi, hn]
  refine ⟨fun i => match cs[i]? with | some (.int _ n) => n.toNat % 256 | _ => 0, ?_, fun i => ?_⟩
  · congr 1
    apply Array.ext_getElem?
    intro i
    by_cases hi : i < 16
    · obtain ⟨n, hn, hlt⟩ := hcell i hi
      rw [cnt_at _ i hi, hn]
      simp [Nat.mod_eq_of_lt hlt]
    · rw [Array.getElem?_eq_none (by omega), Array.getElem?_eq_none (by rw [cnt_size]; omega)]
  · show (match cs[i]? with | some (.int _ n) => n.toNat % 256 | _ => 0) < 256
    split
    · exact Nat.mod_lt _ (by decide)
    · decide
end Go.Proofs.Ytlfnjdgfllhepaa
