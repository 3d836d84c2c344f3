/- The document's Table: plain facts and what lies in memory while it counts. -/
import Derived.Test.YtlfnjdgfllhepaaRTab0
namespace Go.Proofs.Ytlfnjdgfllhepaa
open Go.RowKit

/-- What lies in memory while codes are counted. -/
structure ESt (B g1 g2 : Nat) (L m C : Nat → Nat) (w wr : World) : Prop where
  res : RowC (B + 1) (fun _ => 0) wr
  loc : RowC (B + 1 + 1) C wr
  len : RowN 47 257 g1 (fun i => (L i : Int)) wr
  num : RowN 58 300 g2 (fun i => (m i : Int)) wr
  low : Below B w wr
  a : B + 1 + 1 < g1
  b : g1 < g2
section
variable {B g1 g2 : Nat} {L m C : Nat → Nat} {w wr w' : World}
theorem ESt.on (h : ESt B g1 g2 L m C w wr) (hb : Below wr.heap.size wr w') : ESt B g1 g2 L m C w w' :=
  ⟨h.res.on hb, h.loc.on hb, h.len.on hb, h.num.on hb, h.low.trans (hb.mono (by have := h.res.lt; omega)), h.a, h.b⟩
theorem ESt.setM (h : ESt B g1 g2 L m C w wr) (i v : Nat) {z : Int} (hz : z = v) : ESt B g1 g2 L (upd m i v) C w (wr.setCell ⟨g2, i, none⟩ (.int .i64 z)) :=
  ⟨h.res.other (by have := h.a; have := h.b; omega) _, h.loc.other (by have := h.a; have := h.b; omega) _, h.len.other (by have := h.b; omega) _, h.num.setN i v hz, below_cell h.low (by have := h.a; have := h.b; omega) _, h.a, h.b⟩
theorem ESt.setC (h : ESt B g1 g2 L m C w wr) (i v : Nat) {z : Int} (hz : z = v) : ESt B g1 g2 L m (upd C i v) w (wr.setCell ⟨B + 1 + 1, i, none⟩ (.int .u8 z)) := by
  subst hz
  exact ⟨h.res.other (by omega) _, h.loc.set i v, h.len.other (by have := h.a; omega) _, h.num.other (by have := h.a; have := h.b; omega) _, below_cell h.low (by omega) _, h.a, h.b⟩
end
theorem m0_start (L : Nat → Nat) (i : Nat) : m0 L 0 i = 0 := by
  unfold m0
  by_cases e : i = 0
  · subst e; exact upd_same _ _ _
  · rw [upd_ne _ _ e]; rfl
theorem m0_bound (L : Nat → Nat) (k i : Nat) : m0 L k i ≤ k := by
  unfold m0
  by_cases e : i = 0
  · subst e; rw [upd_same]; omega
  · rw [upd_ne _ _ e]; exact cn_le L k i
/-- What a shortening does, as the document does it. -/
theorem shc_doc (m : Nat → Nat) (n J : Nat) (hJ : J = great m (n - 2)) (hn : 2 ≤ n) (hJn : J ≤ n - 2) (m1 m2 m3 m4 : Nat → Nat) (e1 : m1 = upd m n (m n - 2)) (e2 : m2 = upd m1 (n - 1) (m1 (n - 1) + 1)) (e3 : m3 = upd m2 (J + 1) (m2 (J + 1) + 2)) (e4 : m4 = upd m3 J (m3 J - 1)) : m4 = shc m n := by
  have h1 : m1 (n - 1) = m (n - 1) := by rw [e1]; exact upd_ne _ _ (by omega)
  have h2 : m2 = sh1 m n := by rw [e2, h1, e1]; rfl
  have h3 : m3 J = m2 J := by rw [e3]; exact upd_ne _ _ (by omega)
  rw [e4, h3, e3, h2]
  unfold shc sh2
  rw [← hJ]
  funext i
  by_cases q : i = J
  · subst q; rw [upd_same, upd_ne _ _ (by omega), upd_same]
  · by_cases q2 : i = J + 1
    · subst q2; rw [upd_ne _ _ q, upd_same, upd_same]
    · rw [upd_ne _ _ q, upd_ne _ _ q2, upd_ne _ _ q2, upd_ne _ _ q]
theorem great_down {m : Nat → Nat} {p : Nat} (h : m p = 0) (hp : p ≠ 0) : great m p = great m (p - 1) := by
  obtain ⟨q, rfl⟩ : ∃ q, p = q + 1 := ⟨p - 1, by omega⟩
  exact if_pos h
theorem great_here {m : Nat → Nat} {p : Nat} (h : m p ≠ 0) (hp : p ≠ 0) : great m p = p := by
  obtain ⟨q, rfl⟩ : ∃ q, p = q + 1 := ⟨p - 1, by omega⟩
  exact if_neg h
theorem kr_bound {m : Nat → Nat} {n T : Nat} (h : Kr m n T) (hn : n < 300) (i : Nat) : m i ≤ 257 := by
  by_cases e : i < 300
  · have := off_at m e
    have := h.sum
    have := h.few
    omega
  · have := h.out i (by omega)
    omega
/-- A slice of one byte as a string. -/
theorem conv_one (w : World) (z : Int) (b : UInt8) (hz : z = b.toNat) : (convert 59 9 (.slice (some ⟨w.heap.size, 0, none⟩) 1 1)).run Try.prog (w.alloc (.cells #[.int .u8 z] 5)) = .ok (.string ⟨#[b]⟩) (w.alloc (.cells #[.int .u8 z] 5)) := by
  subst hz
  refine run_convert_bytes_back _ 59 9 5 ⟨w.heap.size, 0, none⟩ 1 [b] Try.underlying59 Try.underlying5 Try.underlying9 fun j hj => ?_
  obtain rfl : j = 0 := by simpa using hj
  show (w.alloc _).cell? ⟨w.heap.size, 0, none⟩ = _
  rw [cell_of_row _ w.heap.size 0 _ 5 (0, 0) (heap_alloc_new w _)]
  rfl
theorem bytes_app (a b : List UInt8) : (⟨a.toArray⟩ : ByteArray) ++ ⟨b.toArray⟩ = ⟨(a ++ b).toArray⟩ := by
  apply ByteArray.ext
  simp
theorem any_no {f : Nat → Nat} {n : Nat} (h : false = true ↔ ∃ j, j < n ∧ f j ≠ 0) (h0 : f n = 0) : (false = true ↔ ∃ j, j < n + 1 ∧ f j ≠ 0) := by
  refine ⟨fun h => (by cases h), fun ⟨j, hj, hj2⟩ => ?_⟩
  by_cases e : j = n
  · subst e; exact absurd h0 hj2
  · exact h.2 ⟨j, by omega, hj2⟩
theorem any_yes {f : Nat → Nat} {n : Nat} (h0 : f n ≠ 0) : (true = true ↔ ∃ j, j < n + 1 ∧ f j ≠ 0) := ⟨fun _ => ⟨n, by omega, h0⟩, fun _ => rfl⟩
theorem any_on {f : Nat → Nat} {n : Nat} (h : true = true ↔ ∃ j, j < n ∧ f j ≠ 0) : (true = true ↔ ∃ j, j < n + 1 ∧ f j ≠ 0) := by
  refine ⟨fun h' => ?_, fun _ => rfl⟩
  obtain ⟨j, hj, h2⟩ := h.1 h'
  exact ⟨j, by omega, h2⟩
theorem any_zero (f : Nat → Nat) : (false = true ↔ ∃ j, j < 0 ∧ f j ≠ 0) := ⟨fun h => (by cases h), fun ⟨j, hj, _⟩ => absurd hj (Nat.not_lt_zero j)⟩
end Go.Proofs.Ytlfnjdgfllhepaa
