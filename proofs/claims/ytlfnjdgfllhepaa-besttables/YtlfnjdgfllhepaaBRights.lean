/- BestRight answers true at every array of 256 numbers; and an array of numbers as an argument. -/
import Derived.Test.YtlfnjdgfllhepaaBRight
import Derived.Test.YtlfnjdgfllhepaaOpens
namespace Go.Proofs.Ytlfnjdgfllhepaa
open Go.ChangeShapes Go.WideShapes Go.ChangeAt Go.RowKit

/-- Numbers that may not be, or are all 0, or of which one comes. -/
theorem kinds (fi : Nat → Int) : ¬ Okf fi ∨ (Okf fi ∧ ∀ i, i < 256 → fi i = 0) ∨ (Okf fi ∧ ∃ y, y < 256 ∧ (fi y).toNat ≠ 0) := by
  by_cases h : Okf fi
  · by_cases h1 : ∃ y, y < 256 ∧ (fi y).toNat ≠ 0
    · exact .inr (.inr ⟨h, h1⟩)
    · refine .inr (.inl ⟨h, fun i hi => ?_⟩)
      have h2 := h i hi
      by_cases e : (fi i).toNat = 0
      · omega
      · exact absurd ⟨i, hi, e⟩ h1
  · exact .inl h
theorem okf_nat {fi : Nat → Int} (h : Okf fi) (i : Nat) (hi : i < 256) : fi i = ((fi i).toNat : Nat) := by
  have := h i hi
  omega
theorem okf_le {fi : Nat → Int} (h : Okf fi) (i : Nat) (hi : i < 256) : (fi i).toNat ≤ 1099511627776 := by
  have := h i hi
  omega
theorem tabS_size (f : Nat → Nat) (y : Nat) (hy : y < 256) (hfy : f y ≠ 0) : (ByteArray.mk (tabS f).toArray).size ≤ maxLen := by
  have := (tab_right f y hy hfy).few
  show (tabS f).toArray.size ≤ _
  rw [List.size_toArray]
  unfold maxLen
  omega
theorem right_no {fi : Nat → Int} (h : ¬ (Okf fi ∧ Some1 fi 256)) : ∀ w, Calls Try.prog 9 #[.agg (ints 256 fi)] w fun e w' => e = .returned (.bool false) ∧ Below w.heap.size w w' :=
  right_any fi false ⟨fun h' => absurd h' (by decide), fun h' => absurd h' h⟩
theorem right_yes {fi : Nat → Int} (h : Okf fi) {y : Nat} (hy : y < 256) (hfy : (fi y).toNat ≠ 0) : ∀ w, Calls Try.prog 9 #[.agg (ints 256 fi)] w fun e w' => e = .returned (.bool true) ∧ Below w.heap.size w w' :=
  right_any fi true ⟨fun _ => ⟨h, y, hy, by have := h y hy; omega⟩, fun _ => rfl⟩
theorem BestRight_any (fi : Nat → Int) (w : World) : Calls Try.prog 3 #[.agg (ints 256 fi)] w fun e w' => e = .returned (.bool true) ∧ Below w.heap.size w w' := by
  rcases kinds fi with h | ⟨h, h0⟩ | ⟨h, y, hy, hfy⟩
  · exact BestRight_no fi 1 (.inl rfl) (Table_arg fi h) (right_no fun h' => h h'.1) w
  · exact BestRight_no fi 5 (.inr rfl) (Table_none fi h0) (right_no fun ⟨_, i, hi, hp⟩ => by rw [h0 i hi] at hp; omega) w
  · refine BestRight_yes (fun i => (fi i).toNat) fi (okf_nat h) (tabC fun i => (fi i).toNat) (tab_lt _ y hy hfy) ⟨(tabS fun i => (fi i).toNat).toArray⟩ (tabS_size _ y hy hfy) ?_ ?_
      (Table_yes _ fi (okf_nat h) (okf_le h) y hy hfy _ rfl _ rfl) (right_yes h hy hfy) w
    · exact tab_right _ y hy hfy
    · exact fun x hx => tab_mem _ y hy hfy x hx

theorem cells256 : Try.prog.cellsOf 22 = 256 := by kernel_rfl
/-- Numbers that came in. -/
theorem open_ints {H : Type} {enc : TypeId × Value → H} {w : World} {base b0 : Nat} {sp : Nat → Bool} {held : Bool} {r : Reach} {v : Value} {d : DataW H} {ps : List MemPlace}
    (hval : Value.okWide Try.prog w r b0 22 v) (hd : DataW.Trod enc Try.prog w base sp held 22 v d ps) : ∃ f : Nat → Int, v = .agg (ints 256 f) := by
  simp only [Value.okWide, Try.underlying22] at hval
  obtain ⟨cs, rfl, hsz, _⟩ := hval
  obtain ⟨fuel, hf⟩ := hd
  obtain ⟨xs, m, _, _, hlen, hxl, hall⟩ := DataW.trod_array Try.underlying22 hf
  rw [cells3] at hall
  simp only [Nat.mul_one, Value.cells] at hall
  rw [cells256] at hsz
  have hcell : ∀ i, i < 256 → ∃ z : Int, cs[i]? = some (.int .i64 z) := by
    intro i hi
    have h1 := hall i hi
    have hx : ∃ x, xs[i]? = some x := ⟨xs[i]'(by omega), by simp [hxl, hi]⟩
    obtain ⟨x, hx⟩ := hx
    rw [hx] at h1
    obtain ⟨z, hn, _, hw⟩ := DataW.trod_int Try.underlying3 h1
    refine ⟨z, ?_⟩
    have hi' : i < cs.toList.length := by simp [hsz, hi]
    rw [List.drop_eq_getElem_cons hi'] at hn
    simp at hn
    simp [hsz, hi, hn]
  refine ⟨fun i => match cs[i]? with | some (.int _ n) => n | _ => 0, ?_⟩
  congr 1
  apply Array.ext_getElem?
  intro i
  by_cases hi : i < 256
  · obtain ⟨n, hn⟩ := hcell i hi
    rw [ints_at _ hi, hn]
  · rw [Array.getElem?_eq_none (by omega), Array.getElem?_eq_none (by rw [ints_size]; omega)]
end Go.Proofs.Ytlfnjdgfllhepaa
