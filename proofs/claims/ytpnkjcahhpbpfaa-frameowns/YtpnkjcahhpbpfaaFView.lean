/- What an argument's reading says of the memory: a slice of factors. -/
import Derived.Test.YtpnkjcahhpbpfaaFZ
import Derived.ChangeSlices
import Derived.ProofKit
import Derived.OpenShut
import Derived.Carry
import Derived.Deep.Slices
import Derived.Deep.Strs
namespace Go.Proofs.Ytpnkjcahhpbpfaa
open Go.RowKit Go.ChangeShapes Go.WideShapes

theorem cells3 : Try.prog.cellsOf 3 = 1 := by kernel_rfl
theorem cells66 : Try.prog.cellsOf 66 = 2 := by kernel_rfl
theorem laidOut : laidOutB Try.prog = true := by kernel_rfl
/-- A cell has no inner place. -/
theorem spot_of_cell {w : World} {a : Addr} {v : Value} (h : w.cell? a = some v) : a.spot = none ∧ a.block < w.heap.size := by
  refine ⟨?_, World.block_lt_of_cell? w a h⟩
  unfold World.cell? at h
  split at h
  · split at h
    · cases h
    · rename_i hs; simpa using hs
  · cases h
theorem trod_struct2 {H : Type} {enc : TypeId × Value → H} {P : Program} {w : World} {base : Nat} {spare : Nat → Bool} {held : Bool} {t : TypeId} {f0 f1 : Field} {fuel : Nat} {cs : List Value} {x : DataW H × List MemPlace} (ht : P.underlying t = some (.struct #[f0, f1])) (h : DataW.trod enc P w base spare held fuel t cs = some x) :
    ∃ y0 y1 n, x = (.agg [y0.1, y1.1], y0.2 ++ y1.2) ∧ cs.length = P.cellsOf t ∧ DataW.trod enc P w base spare held n f0.type ((cs.drop f0.offset).take (P.cellsOf f0.type)) = some y0 ∧
      DataW.trod enc P w base spare held n f1.type ((cs.drop f1.offset).take (P.cellsOf f1.type)) = some y1 := by
  obtain ⟨xs, n, _, rfl, hl, hlen, hf⟩ := DataW.trod_struct ht h
  match xs, hlen with
  | [y0, y1], _ => exact ⟨y0, y1, n, by simp, hl, by simpa using hf 0 f0 rfl, by simpa using hf 1 f1 rfl⟩
theorem parts_view {H : Type} {enc : TypeId × Value → H} {W : World} {base : Nat} {v : Value} {d : DataW H} {ps : List MemPlace}
    (hv : Value.okWide Try.prog W .any base 22 v) (h : DataW.Trod enc Try.prog W 0 (fun _ => true) true 22 v d ps) :
    ∃ (p : Option Addr) (cap : Nat) (L : List FP), v = .slice p L.length cap ∧ RowZ 2 cellsF (.slice p L.length cap) L W := by
  obtain ⟨a0, len, cap, rfl⟩ := okWide_slice Try.underlying22 hv
  obtain ⟨fuel, hf⟩ := h
  rcases Deep.open_slice Try.underlying22 hf with ⟨hcs, _⟩ | ⟨a, len', cap', m, n, D, Pl, hcs, _, hl, hm, hmm, _, hel⟩
  · simp [Value.cells] at hcs
    obtain ⟨rfl, rfl, rfl⟩ := hcs
    exact ⟨none, 0, [], rfl, none, 0, rfl, .inl rfl⟩
  · simp [Value.cells] at hcs
    obtain ⟨rfl, rfl, rfl⟩ := hcs
    simp only [if_true] at hmm
    subst hmm
    rw [cells66] at hel
    have key : ∀ i, i < len → ∃ x : FP, W.cell? ((a.add (i * 2)).add 0) = some (.int .i64 x.1) ∧ W.cell? ((a.add (i * 2)).add 1) = some (.int .i64 x.2) := by
      intro i hi
      obtain ⟨cs, hcs, htr⟩ := hel i (by omega)
      obtain ⟨y0, y1, k, _, hlen, h0, h1⟩ := trod_struct2 Try.underlying66 htr
      unfold World.cells? at hcs
      rw [if_pos (Nat.zero_le _), show List.range 2 = [0, 1] from rfl] at hcs
      cases e0 : W.cell? ((a.add (i * 2)).add 0) with
      | none => simp [List.mapM_cons, e0] at hcs
      | some c0 =>
        cases e1 : W.cell? ((a.add (i * 2)).add 1) with
        | none => simp [List.mapM_cons, e0, e1] at hcs
        | some c1 =>
          simp [List.mapM_cons, e0, e1] at hcs
          subst hcs
          simp only [cells3] at h0 h1
          obtain ⟨n0, q0, _, w0⟩ := DataW.trod_int Try.underlying3 h0
          obtain ⟨n1, q1, _, w1⟩ := DataW.trod_int Try.underlying3 h1
          simp at q0 q1
          subst q0 q1
          exact ⟨(n0, n1), rfl, rfl⟩
    obtain ⟨f, hf2⟩ := Deep.choose_lt key
    have hlen : ((List.range len).map f).length = len := by simp
    refine ⟨some a, m, (List.range len).map f, by rw [hlen], some a, m, by rw [hlen], ?_⟩
    by_cases h0 : len = 0
    · left
      rw [h0]; rfl
    · right
      obtain ⟨b, o, sp⟩ := a
      have h00 := (hf2 0 (by omega)).1
      have hadd0 : ((⟨b, o, sp⟩ : Addr).add (0 * 2)).add 0 = ⟨b, o, sp⟩ := by simp [Addr.add]
      rw [hadd0] at h00
      obtain ⟨hsp, hb⟩ := spot_of_cell h00
      simp only at hsp hb
      subst hsp
      refine ⟨some ⟨b, o, none⟩, m, rfl, .inr ⟨b, o, rfl, hb, fun j hj i hi => ?_⟩⟩
      have hj' : j < len := by simpa using hj
      have h2 := hf2 j hj'
      rw [add_none, add_none, add_none] at h2
      have e : ((List.range len).map f)[j] = f j := by simp
      rw [e]
      rcases (by omega : i = 0 ∨ i = 1) with rfl | rfl
      · rw [show o + (j * 2 + 0) = o + j * 2 + 0 by omega]; exact h2.1
      · rw [show o + (j * 2 + 1) = o + j * 2 + 1 by omega]; exact h2.2
end Go.Proofs.Ytpnkjcahhpbpfaa
