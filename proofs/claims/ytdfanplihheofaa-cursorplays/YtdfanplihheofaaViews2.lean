/- What an argument's reading says of the memory: slices of a pair of a byte and an int. -/
import Derived.Test.YtdfanplihheofaaViews
namespace Go.Proofs.Ytdfanplihheofaa
open Go.RowKit Go.ChangeShapes Go.WideShapes

theorem cells37 : Try.prog.cellsOf 37 = 2 := by kernel_rfl
theorem cells5 : Try.prog.cellsOf 5 = 1 := by kernel_rfl
theorem add_none (b o i : Nat) : (⟨b, o, none⟩ : Addr).add i = ⟨b, o + i, none⟩ := by unfold Addr.add; split <;> simp_all

/-- A slice of pairs of a byte and an int. -/
theorem acts_view {H : Type} {enc : TypeId × Value → H} {W : World} {base : Nat} {v : Value} {d : DataW H} {ps : List MemPlace}
    (hv : Value.okWide Try.prog W .any base 33 v) (h : DataW.Trod enc Try.prog W 0 (fun _ => true) true 33 v d ps) :
    ∃ (p : Option Addr) (cap : Nat) (L : List (Nat × Int)), v = .slice p L.length cap ∧ L.length ≤ maxLen ∧
      (L = [] ∨ ∃ b o, p = some ⟨b, o, none⟩ ∧ b < W.heap.size ∧ ∀ i (hi : i < L.length), W.cell? ⟨b, o + i * 2, none⟩ = some (.int .u8 (L[i].1 : Nat)) ∧ W.cell? ⟨b, o + i * 2 + 1, none⟩ = some (.int .i64 L[i].2)) := by
  obtain ⟨a0, len, cap, rfl⟩ := okWide_slice Try.underlying33 hv
  obtain ⟨fuel, hf⟩ := h
  rcases Deep.open_slice Try.underlying33 hf with ⟨hcs, _⟩ | ⟨a, len', cap', m, n, D, Pl, hcs, _, hl, hm, hmm, _, hel⟩
  · simp [Value.cells] at hcs
    obtain ⟨rfl, rfl, rfl⟩ := hcs
    exact ⟨none, 0, [], rfl, Nat.zero_le _, .inl rfl⟩
  · simp [Value.cells] at hcs
    obtain ⟨rfl, rfl, rfl⟩ := hcs
    simp only [if_true] at hmm
    subst hmm
    rw [cells37] at hel
    have key : ∀ i, i < len → ∃ x : Nat × Int, W.cell? ((a.add (i * 2)).add 0) = some (.int .u8 (x.1 : Nat)) ∧ W.cell? ((a.add (i * 2)).add 1) = some (.int .i64 x.2) := by
      intro i hi
      obtain ⟨cs, hcs, htr⟩ := hel i (by omega)
      obtain ⟨y0, y1, k, _, hlen, h0, h1⟩ := trod_struct2 Try.underlying37 htr
      unfold World.cells? at hcs
      rw [if_pos (Nat.zero_le _), show List.range 2 = [0, 1] from rfl] at hcs
      cases e0 : W.cell? ((a.add (i * 2)).add 0) with
      | none => simp [List.mapM_cons, e0] at hcs
      | some c0 =>
        cases e1 : W.cell? ((a.add (i * 2)).add 1) with
        | none => simp [List.mapM_cons, e0, e1] at hcs
        | some c1 =>
          simp [List.mapM_cons, e0, e1] at hcs
          subst hcs
          simp only [cells5, cells3] at h0 h1
          obtain ⟨n0, q0, _, w0⟩ := DataW.trod_int Try.underlying5 h0
          obtain ⟨n1, q1, _, w1⟩ := DataW.trod_int Try.underlying3 h1
          simp at q0 q1
          subst q0 q1
          have hn0 : 0 ≤ n0 := by simp [Lit.wf, IntKind.min, IntKind.max, IntKind.bits, IntKind.signed] at w0; omega
          refine ⟨(n0.toNat, n1), ?_, rfl⟩
          simp only [Int.toNat_of_nonneg hn0]
    obtain ⟨f, hf2⟩ := Deep.choose_lt key
    refine ⟨some a, m, (List.range len).map f, by simp, by simp; omega, ?_⟩
    by_cases h0 : len = 0
    · left
      rw [h0]; rfl
    · right
      obtain ⟨b, o, sp⟩ := a
      have h00 := (hf2 0 (by omega)).1
      have hadd0 : ((⟨b, o, sp⟩ : Addr).add (0 * 2)).add 0 = ⟨b, o, sp⟩ := by simp [Addr.add]
      rw [hadd0] at h00
      obtain ⟨hsp, hb⟩ := spot_of_cell h00
      simp only at hsp hb
      subst hsp
      refine ⟨b, o, rfl, hb, fun i hi => ?_⟩
      have hi' : i < len := by simpa using hi
      have h2 := hf2 i hi'
      rw [add_none, add_none, add_none] at h2
      simpa using h2
end Go.Proofs.Ytdfanplihheofaa
