/- Walks of the document's Find and Next. -/
import Derived.Test.YtlfnjdgfllhepaaRCodes
namespace Go.Proofs.Ytlfnjdgfllhepaa
open Go.RowKit
theorem below_set3 {B k : Nat} {a w : World} (h : Below B a w) (hk : B ≤ k) (x y z : Value) : Below B a (((w.setCell ⟨k, 0, none⟩ x).setCell ⟨k, 1, none⟩ y).setCell ⟨k, 2, none⟩ z) :=
  ((h.setCell (p := ⟨k, 0, none⟩) hk _).setCell (p := ⟨k, 1, none⟩) hk _).setCell (p := ⟨k, 2, none⟩) hk _

/-- A code lies in this block. -/
def BoxD (k : Nat) (a b d : Int) (w : World) : Prop := w.heap[k]? = some (.cells #[.int .i64 a, .int .i64 b, .int .i64 d] 43 (0, 0))
section
variable {k : Nat} {a b d : Int} {w w' : World}
theorem BoxD.c0 (h : BoxD k a b d w) : w.cell? ⟨k, 0, none⟩ = some (.int .i64 a) := by unfold BoxD at h; simp [World.cell?, h]
theorem BoxD.c1 (h : BoxD k a b d w) : w.cell? ⟨k, 1, none⟩ = some (.int .i64 b) := by unfold BoxD at h; simp [World.cell?, h]
theorem BoxD.c2 (h : BoxD k a b d w) : w.cell? ⟨k, 2, none⟩ = some (.int .i64 d) := by unfold BoxD at h; simp [World.cell?, h]
theorem BoxD.free (h : BoxD k a b d w) (o : Nat) : w.frozen? ⟨k, o, none⟩ = false := by unfold BoxD at h; simp [World.frozen?, h]
theorem BoxD.set (h : BoxD k a b d w) (a' b' d' : Int) : BoxD k a' b' d' (((w.setCell ⟨k, 0, none⟩ (.int .i64 a')).setCell ⟨k, 1, none⟩ (.int .i64 b')).setCell ⟨k, 2, none⟩ (.int .i64 d')) := by
  unfold BoxD at h ⊢; simp [World.setCell, Array.getElem?_modify, h]
end

set_option maxHeartbeats 1000000 in
theorem Find_nil (z : Int) (w : World) : Calls Try.prog 16 #[.slice none 0 0, .int .i64 z] w fun e w' => e = .returned (.tuple #[.agg #[.int .i64 0, .int .i64 0, .int .i64 0], .bool false]) ∧ Below w.heap.size w w' := by
  have HB : Hid (Below w.heap.size w (w.alloc (.cells #[.int .i64 0, .int .i64 0, .int .i64 0] 43))) := below_box _ _
  have hX : BoxD w.heap.size 0 0 0 (w.alloc (.cells #[.int .i64 0, .int .i64 0, .int .i64 0] 43)) := heap_alloc_new _ _
  have HX := Lib.hid hX
  clear hX
  go_enter Try.func16, Try.ntmps16
  go_wp2
  generalize w.alloc (.cells #[.int .i64 0, .int .i64 0, .int .i64 0] 43) = w1 at *
  have z0 := HX.out.c0
  have z1 := HX.out.c1
  have z2 := HX.out.c2
  have f0 := HX.out.free 0
  have f1 := HX.out.free 1
  have f2 := HX.out.free 2
  go_loop [6] (fun i => i = .int .i64 0) (fun _ => 0)
  case atStart => rfl
  case round =>
    subst hrel
    go_wp2
    have hbx := HX.out.set 0 0 0
    have hbl := below_set3 HB.out (Nat.le_refl _) (.int .i64 0) (.int .i64 0) (.int .i64 0)
    generalize ((w1.setCell ⟨w.heap.size, 0, none⟩ (.int .i64 0)).setCell ⟨w.heap.size, 1, none⟩ (.int .i64 0)).setCell ⟨w.heap.size, 2, none⟩ (.int .i64 0) = w5 at hbx hbl ⊢
    have n0 := hbx.c0
    have n1 := hbx.c1
    have n2 := hbx.c2
    refine bodyPost_ret (v := .tuple #[.agg #[.int .i64 0, .int .i64 0, .int .i64 0], .bool false]) (by simp [results, Try.results16, go_sem, n0, n1, n2]) rfl ⟨rfl, hbl⟩

set_option maxHeartbeats 1000000 in
theorem Find_yes (B g q : Nat) (c : Nat → Nat) (hc : ∀ i, c i < 256) (s : ByteArray) (hR : Right c s.data.toList) (i : Nat) (hi : i < s.size) (w : World) (hO : OwnC B (.slice (some ⟨g, 0, none⟩) s.size q) (codes c s.data.toList 16) w) :
    Calls Try.prog 16 #[.slice (some ⟨g, 0, none⟩) s.size q, .int .i64 s[i].toNat] w fun e w' => e = .returned (.tuple #[.agg #[.int .i64 s[i].toNat, .int .i64 (codeN c i), .int .i64 (codeL c i)], .bool true]) ∧ Below w.heap.size w w' := by
  have HB : Hid (Below w.heap.size w (w.alloc (.cells #[.int .i64 0, .int .i64 0, .int .i64 0] 43))) := below_box _ _
  have hX : BoxD w.heap.size 0 0 0 (w.alloc (.cells #[.int .i64 0, .int .i64 0, .int .i64 0] 43)) := heap_alloc_new _ _
  have HX := Lib.hid hX
  have hs : s.size ≤ 256 := by have := hR.few; simpa using this
  have hO1 := hO.below HB.out
  obtain ⟨g', e, hcl⟩ := codes_cells rfl hO hR.sum (by omega)
  simp only [Option.some.injEq, Addr.mk.injEq, and_true] at e
  subst e
  have HCL := Lib.hid (hcl _ hO1)
  have HND := Lib.hid hR.once
  have hLi := codeL_le hR (i := i) (by simpa using hi)
  have hNi := codeN_le' hc hR.sum (i := i) (by simpa using hi)
  clear hX hO hO1 hcl hR hc
  have hxb : s[i].toNat < 256 := s[i].toNat_lt
  generalize hXX : codeN c i = X at *
  generalize hLL : codeL c i = L at *
  have HXX := Lib.hid hXX
  have HLL := Lib.hid hLL
  clear hXX hLL
  go_enter Try.func16, Try.ntmps16
  go_wp2
  generalize w.alloc (.cells #[.int .i64 0, .int .i64 0, .int .i64 0] 43) = w1 at *
  have z0 := HX.out.c0
  have z1 := HX.out.c1
  have z2 := HX.out.c2
  have f0 := HX.out.free 0
  have f1 := HX.out.free 1
  have f2 := HX.out.free 2
  go_loop [6] (fun k => ∃ j : Nat, j ≤ i ∧ k = .int .i64 j) (fun k => s.size - (intOf k).toNat)
  case atStart => exact ⟨0, Nat.zero_le _, rfl⟩
  case round =>
    obtain ⟨j, hj, rfl⟩ := hrel
    have hjs : j < s.size := by omega
    obtain ⟨y0, y1, y2⟩ := HCL.out j hjs
    by_cases e : j = i
    · subst e
      rw [HXX.out] at y1
      rw [HLL.out] at y2
      go_wp2
      have hbx := HX.out.set (s[j].toNat : Nat) X L
      have hbl := below_set3 HB.out (Nat.le_refl _) (.int .i64 (s[j].toNat : Nat)) (.int .i64 X) (.int .i64 L)
      generalize ((w1.setCell ⟨w.heap.size, 0, none⟩ (.int .i64 (s[j].toNat : Nat))).setCell ⟨w.heap.size, 1, none⟩ (.int .i64 X)).setCell ⟨w.heap.size, 2, none⟩ (.int .i64 L) = w5 at hbx hbl ⊢
      have n0 := hbx.c0
      have n1 := hbx.c1
      have n2 := hbx.c2
      refine bodyPost_ret (v := .tuple #[.agg #[.int .i64 (s[j].toNat : Nat), .int .i64 X, .int .i64 L], .bool true]) (by simp [results, Try.results16, go_sem, n0, n1, n2]) rfl ⟨rfl, hbl⟩
    · have hjb : s[j].toNat < 256 := s[j].toNat_lt
      have hne : ((s[j].toNat : Int) == (s[i].toNat : Int)) = false := by
        rw [beq_eq_false_iff_ne]
        intro h
        have h2 : s[j] = s[i] := UInt8.toNat_inj.1 (by omega)
        exact List.pairwise_iff_getElem.1 HND.out j i (by simpa using hjs) (by simpa using hi) (by omega) h2
      go_wp2
      go_round
      case rel => exact ⟨j + 1, by omega, by go_num⟩
      case measure => simp [intOf]; omega

set_option maxHeartbeats 1000000 in
theorem Find_no (B g q : Nat) (c : Nat → Nat) (s : ByteArray) (hR : Right c s.data.toList) (z : Int) (hz : ∀ i (h : i < s.size), (s[i].toNat : Int) ≠ z) (w : World) (hO : OwnC B (.slice (some ⟨g, 0, none⟩) s.size q) (codes c s.data.toList 16) w) :
    Calls Try.prog 16 #[.slice (some ⟨g, 0, none⟩) s.size q, .int .i64 z] w fun e w' => e = .returned (.tuple #[.agg #[.int .i64 0, .int .i64 0, .int .i64 0], .bool false]) ∧ Below w.heap.size w w' := by
  have HB : Hid (Below w.heap.size w (w.alloc (.cells #[.int .i64 0, .int .i64 0, .int .i64 0] 43))) := below_box _ _
  have hX : BoxD w.heap.size 0 0 0 (w.alloc (.cells #[.int .i64 0, .int .i64 0, .int .i64 0] 43)) := heap_alloc_new _ _
  have HX := Lib.hid hX
  have hs : s.size ≤ 256 := by have := hR.few; simpa using this
  have hs1 : 1 ≤ s.size := by have := hR.some; simpa using this
  have hO1 := hO.below HB.out
  obtain ⟨g', e, hcl⟩ := codes_cells rfl hO hR.sum (by omega)
  simp only [Option.some.injEq, Addr.mk.injEq, and_true] at e
  subst e
  have HCL := Lib.hid (hcl _ hO1)
  have HZ := Lib.hid hz
  clear hX hO hO1 hcl hR hz
  go_enter Try.func16, Try.ntmps16
  go_wp2
  generalize w.alloc (.cells #[.int .i64 0, .int .i64 0, .int .i64 0] 43) = w1 at *
  have z0 := HX.out.c0
  have z1 := HX.out.c1
  have z2 := HX.out.c2
  have f0 := HX.out.free 0
  have f1 := HX.out.free 1
  have f2 := HX.out.free 2
  go_loop [6] (fun k => ∃ j : Nat, j ≤ s.size ∧ k = .int .i64 j) (fun k => s.size - (intOf k).toNat)
  case atStart => exact ⟨0, Nat.zero_le _, rfl⟩
  case round =>
    obtain ⟨j, hj, rfl⟩ := hrel
    by_cases hjs : j < s.size
    · obtain ⟨y0, y1, y2⟩ := HCL.out j hjs
      have hjb : s[j].toNat < 256 := s[j].toNat_lt
      have hne : ((s[j].toNat : Int) == z) = false := by
        rw [beq_eq_false_iff_ne]
        exact HZ.out j hjs
      go_wp2
      go_round
      case rel => exact ⟨j + 1, by omega, by go_num⟩
      case measure => simp [intOf]; omega
    · obtain rfl : j = s.size := by omega
      clear hjs
      go_wp2
      have hbx := HX.out.set 0 0 0
      have hbl := below_set3 HB.out (Nat.le_refl _) (.int .i64 0) (.int .i64 0) (.int .i64 0)
      generalize ((w1.setCell ⟨w.heap.size, 0, none⟩ (.int .i64 0)).setCell ⟨w.heap.size, 1, none⟩ (.int .i64 0)).setCell ⟨w.heap.size, 2, none⟩ (.int .i64 0) = w5 at hbx hbl ⊢
      have n0 := hbx.c0
      have n1 := hbx.c1
      have n2 := hbx.c2
      refine bodyPost_ret (v := .tuple #[.agg #[.int .i64 0, .int .i64 0, .int .i64 0], .bool false]) (by simp [results, Try.results16, go_sem, n0, n1, n2]) rfl ⟨rfl, hbl⟩
end Go.Proofs.Ytlfnjdgfllhepaa
