/- Walks of package frame: together, Clone, counting, check. -/
import Derived.Test.YtpnkjcahhpbpfaaFPart
namespace Go.Proofs.Ytpnkjcahhpbpfaa
open Go.RowKit

theorem size62F (x : FP) : (Try.prog.info? 62).map (·.size) = some (cellsF x).size := by
  show _ = some 2
  kernel_rfl
/-- Factors that may be. -/
def okF (l : List FP) : Prop := ∀ x ∈ l, 1 ≤ x.1 ∧ x.1 ≤ 4 ∧ 1 ≤ x.2 ∧ x.2 ≤ 4
theorem okF_of {l : List FP} (h : l.any wrongP = false) : okF l := by
  intro x hx
  have h1 : wrongP x = false := by
    cases hb : wrongP x
    · rfl
    · exact absurd (List.any_eq_true.2 ⟨x, hx, hb⟩) (by rw [h]; simp)
  unfold wrongP at h1
  simp at h1
  omega
set_option maxHeartbeats 2000000 in
theorem together_any (v : Value) (l : List FP) (w : World) (hl : l.length ≤ 1000) (hok : okF l) (hv : RowV 2 cellsF v l w) :
    Calls Try.prog 31 #[v] w fun e w' => e = .returned (.int .i64 (sumP l)) ∧ Below w.heap.size w w' := by
  obtain ⟨p, m, c, rfl, hm⟩ := hv.shape
  have HV := Lib.hid hv
  have HM := Lib.hid hm.out
  have HOK := Lib.hid hok
  have hm2 : m ≤ 1000 := by rw [hm.out]; exact hl
  clear hv hm hl hok
  go_enter Try.func31, Try.ntmps31
  go_wp2
  go_loopw [3, 8] (fun n i wr => ∃ j : Nat, i = .int .i64 j ∧ j ≤ m ∧ n = .int .i64 (sumP (l.take j)) ∧ Below w.heap.size w wr) (fun _ i _ => m - (intOf i).toNat)
  case atStart => exact ⟨0, rfl, Nat.zero_le _, rfl, Below.refl _ _⟩
  case round =>
    obtain ⟨j, rfl, hj, rfl, hb⟩ := hrel
    have HB := Lib.hid hb
    clear hb
    by_cases hlt : j < m
    · have hjl : j < l.length := by rw [← HM.out]; exact hlt
      obtain ⟨b, o, c', hvv, hbl, hc⟩ := (HV.out.on cellsF_size HB.out).lies (by omega)
      simp only [Value.slice.injEq] at hvv
      obtain ⟨rfl, hy1, hy2⟩ := hvv
      clear hy1 hy2
      obtain ⟨x0, x1⟩ := fac_cells hc hjl
      have h1 := HOK.out _ (List.getElem_mem hjl)
      have hs := sumP_take hjl
      have hbd := sumP_bound (l := l.take j) fun x hx => HOK.out x (List.mem_of_mem_take hx)
      have hlen : (l.take j).length ≤ 1000 := by rw [List.length_take]; omega
      have p1 : 0 ≤ l[j].1 * l[j].2 := Int.mul_nonneg (by omega) (by omega)
      have p2 : l[j].1 * l[j].2 ≤ 4 * 4 := Int.mul_le_mul h1.2.1 h1.2.2.2 (by omega) (by omega)
      have HS := Lib.hid hs
      have hb1 : 0 ≤ sumP (l.take j) := hbd.1
      have hb2 : sumP (l.take j) ≤ 16000 := by have := hbd.2; omega
      clear hs hbd hlen h1
      generalize sumP (l.take j) = S at *
      generalize l[j].1 = a0 at *
      generalize l[j].2 = a1 at *
      have p3 : wrap64 (a0 * a1) = a0 * a1 := wrap64_small _ (by omega) (by omega)
      clear hc hbl hjl
      go_wp2_with (refine wpList_freshE rfl 62 _ _ rfl wr _ rfl (cellsF (a0, a1)) rfl rfl (size62F _) rfl (cellsF_one _) ?_; intro wp hp hbp; have HPB := Lib.hid (HB.out.trans (hbp.mono HB.out.size)); have z0 : wp.cell? ⟨wr.heap.size, 0, none⟩ = some (.int .i64 a0) := Lib.cell_of_heap hp 0; have z1 : wp.cell? ⟨wr.heap.size, 1, none⟩ = some (.int .i64 a1) := Lib.cell_of_heap hp 1; clear hp hbp x0 x1)
      go_roundw
      case rel => exact ⟨j + 1, by go_num, by omega, by rw [HS.out], HPB.out⟩
      case measure => simp [intOf]; omega
    · obtain rfl : j = m := by omega
      have HF : Hid (sumP (l.take j) = sumP l) := by unfold Hid; rw [HM.out, List.take_length]
      go_wp2
      go_ret
      exact ⟨by rw [← HF.out]; rfl, HB.out⟩
end Go.Proofs.Ytpnkjcahhpbpfaa
