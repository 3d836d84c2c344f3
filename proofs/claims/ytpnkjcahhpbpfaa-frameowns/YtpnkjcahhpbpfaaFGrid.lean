/- Walks of package frame: Blocks, Grid, check. -/
import Derived.Test.YtpnkjcahhpbpfaaFAsk
namespace Go.Proofs.Ytpnkjcahhpbpfaa
open Go.RowKit

abbrev GT := Nat × Nat × Nat × Nat
def cellsG (x : GT) : Array Value := #[.int .i64 (x.1 : Nat), .int .i64 (x.2.1 : Nat), .int .i64 (x.2.2.1 : Nat), .int .i64 (x.2.2.2 : Nat)]
theorem cellsG_size (x : GT) : (cellsG x).size = 4 := rfl
theorem cellsG_one (x : GT) : (cellsG x).all (·.oneCell') = true := by
  unfold cellsG
  simp
  exact ⟨rfl, rfl, rfl, rfl⟩
theorem info34 : (Try.prog.info? 34).map (fun i => (i.zero, i.size, i.bytes)) = some (some (.agg (cellsG (0, 0, 0, 0))), 4, 32) := by kernel_rfl
theorem size34 (x : GT) : (Try.prog.info? 34).map (·.size) = some (cellsG x).size := by
  show _ = some 4
  kernel_rfl
theorem grid_cells {b o : Nat} {l : List GT} {w : World} (h : ∀ j (h : j < l.length) i, i < 4 → w.cell? ⟨b, o + (j * 4 + i), none⟩ = (cellsG l[j])[i]?) {j : Nat} (hj : j < l.length) :
    w.cell? ⟨b, o + j * 4, none⟩ = some (.int .i64 (l[j].1 : Nat)) ∧ w.cell? ⟨b, o + j * 4 + 1, none⟩ = some (.int .i64 (l[j].2.1 : Nat)) ∧ w.cell? ⟨b, o + j * 4 + 2, none⟩ = some (.int .i64 (l[j].2.2.1 : Nat)) ∧ w.cell? ⟨b, o + j * 4 + 3, none⟩ = some (.int .i64 (l[j].2.2.2 : Nat)) :=
  ⟨h j hj 0 (by omega), h j hj 1 (by omega), h j hj 2 (by omega), h j hj 3 (by omega)⟩
/-- How many blocks all grids have. -/
def sumG (l : List GT) : Nat := (l.map fun x => x.1 * x.2.1).sum
theorem sumG_take {l : List GT} {j : Nat} (h : j < l.length) : sumG (l.take (j + 1)) = sumG (l.take j) + l[j].1 * l[j].2.1 := by
  unfold sumG
  rw [List.take_succ_eq_append_getElem h, List.map_append, List.sum_append]
  simp
/-- Grids that are not too great. -/
def okG (l : List GT) : Prop := ∀ x ∈ l, x.1 ≤ 8192 ∧ x.2.1 ≤ 8192
theorem sumG_bound {l : List GT} (h : okG l) : sumG l ≤ 67108864 * l.length := by
  induction l with
  | nil => exact Nat.le_refl _
  | cons x l ih =>
    have h1 := h x (by simp)
    have h2 := ih fun y hy => h y (by simp [hy])
    have e : sumG (x :: l) = x.1 * x.2.1 + sumG l := by simp [sumG]
    have p2 : x.1 * x.2.1 ≤ 8192 * 8192 := Nat.mul_le_mul h1.1 h1.2
    rw [e, List.length_cons]
    omega
set_option maxHeartbeats 2000000 in
theorem Blocks_any (k a d H V : Nat) (p v : Value) (l : List GT) (hl : l.length ≤ 4) (hok : okG l) (w : World) (h : Fr k a d H V p v w) (hv : RowV 4 cellsG v l w) :
    Calls Try.prog 10 #[.pointer (some ⟨k, 0, none⟩)] w fun e w' => e = .returned (.int .i64 (sumG l : Nat)) ∧ Below w.heap.size w w' := by
  obtain ⟨p1, m, c, rfl, hm⟩ := hv.shape
  have HV := Lib.hid hv
  have HM := Lib.hid hm.out
  have HOK := Lib.hid hok
  have hm2 : m ≤ 4 := by rw [hm.out]; exact hl
  have x5 := h.c5
  clear hv hm hl hok h
  go_enter Try.func10, Try.ntmps10
  go_wp2
  go_loopw [3, 13] (fun n i wr => ∃ j : Nat, i = .int .i64 j ∧ j ≤ m ∧ n = .int .i64 (sumG (l.take j) : Nat) ∧ Below w.heap.size w wr) (fun _ i _ => m - (intOf i).toNat)
  case atStart => exact ⟨0, rfl, Nat.zero_le _, rfl, Below.refl _ _⟩
  case round =>
    obtain ⟨j, rfl, hj, rfl, hb⟩ := hrel
    have HB := Lib.hid hb
    clear hb
    by_cases hlt : j < m
    · have hjl : j < l.length := by rw [← HM.out]; exact hlt
      obtain ⟨b, o, c', hvv, hbl, hc⟩ := (HV.out.on cellsG_size HB.out).lies (by omega)
      simp only [Value.slice.injEq] at hvv
      obtain ⟨rfl, hy1, hy2⟩ := hvv
      clear hy1 hy2
      obtain ⟨x0, x1, x2, x3⟩ := grid_cells hc hjl
      have h1 := HOK.out _ (List.getElem_mem hjl)
      have hs := sumG_take hjl
      have hbd := sumG_bound (l := l.take j) fun x hx => HOK.out x (List.mem_of_mem_take hx)
      have hlen : (l.take j).length ≤ 4 := by rw [List.length_take]; omega
      have p2 : l[j].1 * l[j].2.1 ≤ 8192 * 8192 := Nat.mul_le_mul h1.1 h1.2
      have HS := Lib.hid hs
      have hb2 : sumG (l.take j) ≤ 268435456 := by omega
      clear hs hbd hlen
      obtain ⟨h11, h12⟩ := h1
      generalize sumG (l.take j) = S at *
      generalize l[j].1 = a0 at *
      generalize l[j].2.1 = a1 at *
      generalize l[j].2.2.1 = a2 at *
      generalize l[j].2.2.2 = a3 at *
      have p4 : ((a0 : Nat) : Int) * ((a1 : Nat) : Int) = ((a0 * a1 : Nat) : Int) := by rw [Int.natCast_mul]
      have p3 : wrap64 (((a0 : Nat) : Int) * ((a1 : Nat) : Int)) = ((a0 * a1 : Nat) : Int) := by rw [p4]; exact wrap64_small _ (by omega) (by omega)
      clear hc hbl hjl
      generalize hq : a0 * a1 = q at *
      have HQ := Lib.hid hq
      clear hq
      go_wp2_with (refine wpList_freshE rfl 34 _ _ rfl wr _ rfl (cellsG (a0, a1, a2, a3)) rfl rfl (size34 _) rfl (cellsG_one _) ?_; intro wp hp hbp; have HPB := Lib.hid (HB.out.trans (hbp.mono HB.out.size)); have z0 : wp.cell? ⟨wr.heap.size, 0, none⟩ = some (.int .i64 (a0 : Nat)) := Lib.cell_of_heap hp 0; have z1 : wp.cell? ⟨wr.heap.size, 1, none⟩ = some (.int .i64 (a1 : Nat)) := Lib.cell_of_heap hp 1; clear hp hbp x0 x1 x2 x3)
      go_roundw
      case rel => exact ⟨j + 1, by go_num, by omega, by rw [HS.out]; go_num, HPB.out⟩
      case measure => simp [intOf]; omega
    · obtain rfl : j = m := by omega
      have HF : Hid (sumG (l.take j) = sumG l) := by unfold Hid; rw [HM.out, List.take_length]
      go_wp2
      go_ret
      exact ⟨by rw [← HF.out]; rfl, HB.out⟩
end Go.Proofs.Ytpnkjcahhpbpfaa
