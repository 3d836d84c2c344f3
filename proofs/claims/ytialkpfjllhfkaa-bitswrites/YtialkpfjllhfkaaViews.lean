/- What an argument's reading says of the memory: a slice of calls (a byte and two ints). -/
import Derived.Test.YtialkpfjllhfkaaProg
import Derived.ChangeSlices
import Derived.ProofKit
import Derived.OpenShut
import Derived.Carry
import Derived.Deep.Slices
import Derived.Deep.Strs
namespace Go.Proofs.Ytialkpfjllhfkaa
open Go.RowKit Go.ChangeShapes Go.WideShapes

theorem cells3 : Try.prog.cellsOf 3 = 1 := by kernel_rfl
theorem cells5 : Try.prog.cellsOf 5 = 1 := by kernel_rfl
theorem cells28 : Try.prog.cellsOf 28 = 3 := by kernel_rfl
theorem laidOut : laidOutB Try.prog = true := by kernel_rfl
theorem add_none (b o i : Nat) : (⟨b, o, none⟩ : Addr).add i = ⟨b, o + i, none⟩ := by unfold Addr.add; split <;> simp_all

/-- A cell has no inner place. -/
theorem spot_of_cell {w : World} {a : Addr} {v : Value} (h : w.cell? a = some v) : a.spot = none ∧ a.block < w.heap.size := by
  refine ⟨?_, World.block_lt_of_cell? w a h⟩
  unfold World.cell? at h
  split at h
  · split at h
    · cases h
    · rename_i hs; simpa using hs
  · cases h

/-- The calls lie in memory, three cells each. -/
def Acts (p : Option Addr) (L : List (Nat × Int × Int)) (w : World) : Prop :=
  L = [] ∨ ∃ b o, p = some ⟨b, o, none⟩ ∧ b < w.heap.size ∧ ∀ i (hi : i < L.length), w.cell? ⟨b, o + i * 3, none⟩ = some (.int .u8 (L[i].1 : Nat)) ∧ w.cell? ⟨b, o + i * 3 + 1, none⟩ = some (.int .i64 L[i].2.1) ∧ w.cell? ⟨b, o + i * 3 + 2, none⟩ = some (.int .i64 L[i].2.2)

theorem acts_view {H : Type} {enc : TypeId × Value → H} {W : World} {base : Nat} {v : Value} {d : DataW H} {ps : List MemPlace}
    (hv : Value.okWide Try.prog W .any base 22 v) (h : DataW.Trod enc Try.prog W 0 (fun _ => true) true 22 v d ps) :
    ∃ (p : Option Addr) (cap : Nat) (L : List (Nat × Int × Int)), v = .slice p L.length cap ∧ L.length ≤ maxLen ∧ (∀ x ∈ L, x.1 < 256) ∧ Acts p L W := by
  obtain ⟨a0, len, cap, rfl⟩ := okWide_slice Try.underlying22 hv
  obtain ⟨fuel, hf⟩ := h
  rcases Deep.open_slice Try.underlying22 hf with ⟨hcs, _⟩ | ⟨a, len', cap', m, n, D, Pl, hcs, _, hl, hm, hmm, _, hel⟩
  · simp [Value.cells] at hcs
    obtain ⟨rfl, rfl, rfl⟩ := hcs
    exact ⟨none, 0, [], rfl, Nat.zero_le _, by simp, .inl rfl⟩
  · simp [Value.cells] at hcs
    obtain ⟨rfl, rfl, rfl⟩ := hcs
    simp only [if_true] at hmm
    subst hmm
    rw [cells28] at hel
    have key : ∀ i, i < len → ∃ x : Nat × Int × Int, x.1 < 256 ∧ W.cell? ((a.add (i * 3)).add 0) = some (.int .u8 (x.1 : Nat)) ∧ W.cell? ((a.add (i * 3)).add 1) = some (.int .i64 x.2.1) ∧ W.cell? ((a.add (i * 3)).add 2) = some (.int .i64 x.2.2) := by
      intro i hi
      obtain ⟨cs, hcs, htr⟩ := hel i (by omega)
      obtain ⟨y0, y1, y2, k, _, hlen, h0, h1, h2⟩ := Deep.trod_struct3 Try.underlying28 htr
      unfold World.cells? at hcs
      rw [if_pos (Nat.zero_le _), show List.range 3 = [0, 1, 2] from rfl] at hcs
      cases e0 : W.cell? ((a.add (i * 3)).add 0) with
      | none => simp [List.mapM_cons, e0] at hcs
      | some c0 =>
        cases e1 : W.cell? ((a.add (i * 3)).add 1) with
        | none => simp [List.mapM_cons, e0, e1] at hcs
        | some c1 =>
          cases e2 : W.cell? ((a.add (i * 3)).add 2) with
          | none => simp [List.mapM_cons, e0, e1, e2] at hcs
          | some c2 =>
            simp [List.mapM_cons, e0, e1, e2] at hcs
            subst hcs
            simp only [cells5, cells3] at h0 h1 h2
            obtain ⟨n0, q0, _, w0⟩ := DataW.trod_int Try.underlying5 h0
            obtain ⟨n1, q1, _, w1⟩ := DataW.trod_int Try.underlying3 h1
            obtain ⟨n2, q2, _, w2⟩ := DataW.trod_int Try.underlying3 h2
            simp at q0 q1 q2
            subst q0 q1 q2
            have hn0 : 0 ≤ n0 ∧ n0 < 256 := by simp [Lit.wf, IntKind.min, IntKind.max, IntKind.bits, IntKind.signed] at w0; omega
            refine ⟨(n0.toNat, n1, n2), by simp only []; omega, ?_, rfl, rfl⟩
            simp only [Int.toNat_of_nonneg hn0.1]
    obtain ⟨f, hf2⟩ := Deep.choose_lt key
    refine ⟨some a, m, (List.range len).map f, by simp, by simp; omega, ?_, ?_⟩
    · intro x hx
      obtain ⟨i, hi, rfl⟩ := List.mem_map.1 hx
      exact (hf2 i (by simpa using hi)).1
    by_cases h0 : len = 0
    · left
      rw [h0]; rfl
    · right
      obtain ⟨b, o, sp⟩ := a
      have h00 := (hf2 0 (by omega)).2.1
      have hadd0 : ((⟨b, o, sp⟩ : Addr).add (0 * 3)).add 0 = ⟨b, o, sp⟩ := by simp [Addr.add]
      rw [hadd0] at h00
      obtain ⟨hsp, hb⟩ := spot_of_cell h00
      simp only at hsp hb
      subst hsp
      refine ⟨b, o, rfl, hb, fun i hi => ?_⟩
      have hi' : i < len := by simpa using hi
      have h2 := (hf2 i hi').2
      rw [add_none, add_none, add_none, add_none] at h2
      simpa using h2
theorem Acts.on {p : Option Addr} {L : List (Nat × Int × Int)} {w w' : World} (h : Acts p L w) (hb : Below w.heap.size w w') : Acts p L w' := by
  rcases h with h | ⟨b, o, hp, hlt, hc⟩
  · exact .inl h
  · refine .inr ⟨b, o, hp, Nat.lt_of_lt_of_le hlt hb.size, fun i hi => ?_⟩
    rw [hb.cell hlt, hb.cell hlt, hb.cell hlt]
    exact hc i hi
end Go.Proofs.Ytialkpfjllhfkaa
