/- Walks of package bits: the writer's Put, Mark, Bytes. -/
import Derived.Test.YtlfnjdgfllhepaaOwn
import Derived.Laws.CopyOwn
namespace Go.Proofs.Ytlfnjdgfllhepaa
open Go.RowKit

theorem put_or (part n v : Nat) (hn : n ≤ 16) (hp : part < 128) (hv : v < 2 ^ n) :
    bits .or .i64 (wrap64 ((part : Int) * 2 ^ n)) (v : Int) = ((part * 2 ^ n + v : Nat) : Int) ∧ part * 2 ^ n + v < 16777216 := by
  have h1 : 2 ^ n ≤ 2 ^ 16 := Nat.pow_le_pow_right (by omega) hn
  have h3 : part * 2 ^ n + 2 ^ n ≤ 128 * 2 ^ 16 := by
    rw [← Nat.succ_mul]
    exact Nat.mul_le_mul hp h1
  have e2 : (part : Int) * 2 ^ n = ((part * 2 ^ n : Nat) : Int) := by simp
  refine ⟨?_, by omega⟩
  rw [e2, wrap64_nat _ (by omega), i64_or_nat _ _ (by omega) (by omega), or_pow _ _ _ hv]
theorem pow_128 (r : Nat) (x : Nat) (hr : r < 8) (h : x < 2 ^ r) : x < 128 := by
  have : 2 ^ r ≤ 2 ^ 7 := Nat.pow_le_pow_right (by omega) (by omega)
  omega
theorem shr_zero (v n : Nat) (h : v < 2 ^ n) : ((v : Int) / 2 ^ n != 0) = false := by
  have : (v : Int) / 2 ^ n = ((v / 2 ^ n : Nat) : Int) := by simp
  rw [this, Nat.div_eq_of_lt h]
  rfl

theorem shr_ne (v : Int) (n : Nat) (h : v < 0 ∨ ((2 ^ n : Nat) : Int) ≤ v) : (v / 2 ^ n != 0) = true := by
  rw [bne_iff_ne, show (2 : Int) ^ n = ((2 ^ n : Nat) : Int) by simp]
  have hp : (0 : Int) < ((2 ^ n : Nat) : Int) := by have := Nat.two_pow_pos n; omega
  rcases h with h | h
  · have := Int.ediv_neg_of_neg_of_pos h hp; omega
  · have := Int.le_ediv_of_mul_le hp (show 1 * ((2 ^ n : Nat) : Int) ≤ v by omega); omega
theorem make_two (L : Nat) (hL : L ≤ 900000) (w : World) : (Instr.makeSlice 59 (.int .i64 (L : Int)) (.int .i64 ((L : Int) + 2))).run Try.prog w = .ok (.slice (some ⟨w.heap.size, 0, none⟩) L (L + 2)) (w.alloc (.cells (madeCells #[.int .u8 0] (L + 2)) 5)) := by
  obtain ⟨i, hi, hz, hs, hb⟩ := info_parts info5
  have hr := run_make (P := Try.prog) w 59 5 i (.int .u8 0) Try.underlying59 hi hz .i64 .i64 (L : Int) ((L : Int) + 2) (by omega) (by omega) (by rw [hb]; omega) (by omega)
  rw [hs] at hr
  simp only [Int.toNat_natCast, Nat.mul_one, show ((L : Int) + 2).toNat = L + 2 by omega] at hr
  exact hr
theorem copy_out (w : World) (g L q0 : Nat) (p0 : Option Addr) (cur cs : List Value) (hg : w.heap[g]? = some (.cells cur.toArray 5 (0, 0))) (hl : cs.length = L)
    (hpos : 0 < cs.length → (some ⟨g, 0, none⟩ : Option Addr) = some ⟨g, 0, none⟩ ∧ ∃ ad, p0 = some ad ∧ ∀ j v, cs[j]? = some v → w.cell? (ad.add j) = some v) (hfit : L ≤ cur.length) (h1 : ∀ v ∈ cs, v.oneCell' = true) :
    ∃ w3, (Builtin.copy_ #[59, 59] 3 #[.slice (some ⟨g, 0, none⟩) L (L + 2), .slice p0 L q0]).run Try.prog w = .ok (goInt L) w3 ∧ w3.heap[g]? = some (.cells (splice cur 0 cs).toArray 5 (0, 0)) ∧ Below g w w3 := by
  subst hl
  by_cases h0 : cs.length = 0
  · obtain rfl : cs = [] := List.eq_nil_of_length_eq_zero h0
    refine ⟨w, run_copy_none (P := Try.prog) w 59 59 3 5 _ _ _ _ _ _ Try.underlying59 (by kernel_rfl) (by simp), ?_, Below.refl _ _⟩
    simpa [splice] using hg
  · obtain ⟨_, ad, rfl, hsrc⟩ := hpos (by omega)
    refine ⟨_, run_copy_row (P := Try.prog) w 59 59 3 5 g 0 cs.length (cs.length + 2) ad cs.length q0 cur.toArray 5 cs Try.underlying59 (by kernel_rfl) hg (by simp) hsrc (by simpa using hfit) h1, ?_, below_setRow (Below.refl _ _) (Nat.le_refl _) _⟩
    simpa [splice] using setRow_heap w g _ _ 5 _ hg
end Go.Proofs.Ytlfnjdgfllhepaa
