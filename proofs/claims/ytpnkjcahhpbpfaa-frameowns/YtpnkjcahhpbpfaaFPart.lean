/- Walks of package frame over factors: IndexFunc, ContainsFunc, together. -/
import Derived.Test.YtpnkjcahhpbpfaaFSmall
namespace Go.Proofs.Ytpnkjcahhpbpfaa
open Go.RowKit

def cellsF (x : FP) : Array Value := #[.int .i64 x.1, .int .i64 x.2]
theorem cellsF_size (x : FP) : (cellsF x).size = 2 := rfl
theorem cellsF_one (x : FP) : (cellsF x).all (·.oneCell') = true := by
  unfold cellsF
  simp
  exact ⟨rfl, rfl⟩
theorem info62 : (Try.prog.info? 62).map (fun i => (i.zero, i.size, i.bytes)) = some (some (.agg (cellsF (0, 0))), 2, 16) := by kernel_rfl
theorem info66 : (Try.prog.info? 66).map (fun i => (i.zero, i.size, i.bytes)) = some (some (.agg (cellsF (0, 0))), 2, 16) := by kernel_rfl
theorem fac_cells {b o : Nat} {l : List FP} {w : World} (h : ∀ j (h : j < l.length) i, i < 2 → w.cell? ⟨b, o + (j * 2 + i), none⟩ = (cellsF l[j])[i]?) {j : Nat} (hj : j < l.length) :
    w.cell? ⟨b, o + j * 2, none⟩ = some (.int .i64 l[j].1) ∧ w.cell? ⟨b, o + j * 2 + 1, none⟩ = some (.int .i64 l[j].2) :=
  ⟨h j hj 0 (by omega), h j hj 1 (by omega)⟩
theorem wrong_two (x y : Int) (w : World) : Calls Try.prog 30 #[.agg #[.int .i64 x, .int .i64 y]] w fun e w' => e = .returned (.bool (wrongP (x, y))) ∧ Below w.heap.size w w' := wrong_any (x, y) w
set_option maxHeartbeats 1000000 in
theorem IndexF (v : Value) (l : List FP) (w : World) (hl : l.length ≤ 1000) (hv : RowV 2 cellsF v l w) :
    Calls Try.prog 37 #[v, .func (.func 30) #[] #[]] w fun e w' => ∃ i : Int, e = .returned (.int .i64 i) ∧ decide (0 ≤ i) = l.any wrongP ∧ Below w.heap.size w w' := by
  obtain ⟨p, m, c, rfl, hm⟩ := hv.shape
  have HV := Lib.hid hv
  have HM := Lib.hid hm
  have hm2 : m ≤ 1000 := by rw [show m = l.length from hm]; exact hl
  clear hv hm hl
  go_enter Try.func37, Try.ntmps37
  go_wp2
  go_loopw [8] (fun i wr => ∃ j : Nat, i = .int .i64 j ∧ j ≤ m ∧ (l.take j).any wrongP = false ∧ Below w.heap.size w wr) (fun i _ => m - (intOf i).toNat)
  case atStart => exact ⟨0, rfl, Nat.zero_le _, rfl, Below.refl _ _⟩
  case round =>
    obtain ⟨j, rfl, hj, ha, hb⟩ := hrel
    have HA := Lib.hid ha
    have HB := Lib.hid hb
    clear ha hb
    by_cases hlt : j < m
    · have hjl : j < l.length := by rw [← show m = l.length from HM.out]; exact hlt
      obtain ⟨b, o, c', hvv, hbl, hc⟩ := (HV.out.on cellsF_size HB.out).lies (by omega)
      simp only [Value.slice.injEq] at hvv
      obtain ⟨rfl, hy1, hy2⟩ := hvv
      clear hy1 hy2
      obtain ⟨x0, x1⟩ := fac_cells hc hjl
      have HS := Lib.hid (wrong_two l[j].1 l[j].2 wr)
      have HT : Hid ((l.take (j + 1)).any wrongP = wrongP (l[j].1, l[j].2)) := by
        unfold Hid
        rw [List.take_succ_eq_append_getElem hjl, List.any_append, HA.out]
        simp
      have HE : Hid (wrongP (l[j].1, l[j].2) = true → l.any wrongP = true) := by
        intro h
        exact List.any_eq_true.2 ⟨l[j], List.getElem_mem hjl, h⟩
      generalize l[j].1 = a0 at *
      generalize l[j].2 = a1 at *
      clear hc hbl hjl
      by_cases he : wrongP (a0, a1) = true
      · rw [he] at HS
        have HEE := Lib.hid (HE.out he)
        clear he
        go_wp2_with (go_at_call 30; refine HS.out.mono ?_; rintro e w2 ⟨rfl, hb⟩; have HB2 := Lib.hid (HB.out.trans (hb.mono HB.out.size)); clear hb)
        go_ret
        exact ⟨_, rfl, by rw [HEE.out]; exact decide_eq_true (by omega), HB2.out⟩
      · have he' : wrongP (a0, a1) = false := by simpa using he
        rw [he'] at HS HT
        clear he he'
        go_wp2_with (go_at_call 30; refine HS.out.mono ?_; rintro e w2 ⟨rfl, hb⟩; have HB2 := Lib.hid (HB.out.trans (hb.mono HB.out.size)); clear hb)
        go_roundw
        case rel => exact ⟨j + 1, by go_num, by omega, HT.out, HB2.out⟩
        case measure => simp [intOf]; omega
    · obtain rfl : j = m := by omega
      have HF : Hid (l.any wrongP = false) := by
        have := HA.out
        rwa [show j = l.length from HM.out, List.take_length] at this
      go_wp2
      go_ret
      exact ⟨_, rfl, by rw [HF.out]; rfl, HB.out⟩
set_option maxHeartbeats 1000000 in
theorem ContainsF (v : Value) (l : List FP) (w : World) (hl : l.length ≤ 1000) (hv : RowV 2 cellsF v l w) :
    Calls Try.prog 29 #[v, .func (.func 30) #[] #[]] w fun e w' => e = .returned (.bool (l.any wrongP)) ∧ Below w.heap.size w w' := by
  have HI := Lib.hid (IndexF v l w hl hv)
  clear hv hl
  go_enter Try.func29, Try.ntmps29
  go_wp2_with (go_at_call 37; refine HI.out.mono ?_; rintro e w2 ⟨i, rfl, hi, hb⟩; have HB2 := Lib.hid hb; have HJ := Lib.hid hi; clear hb hi)
  go_ret
  exact ⟨by rw [← HJ.out]; rfl, HB2.out⟩
/-- The products of the factors, summed up. -/
def sumP (l : List FP) : Int := (l.map fun x => x.1 * x.2).sum
theorem sumP_take {l : List FP} {j : Nat} (h : j < l.length) : sumP (l.take (j + 1)) = sumP (l.take j) + l[j].1 * l[j].2 := by
  unfold sumP
  rw [List.take_succ_eq_append_getElem h, List.map_append, List.sum_append]
  simp
theorem sumP_bound {l : List FP} (h : ∀ x ∈ l, 1 ≤ x.1 ∧ x.1 ≤ 4 ∧ 1 ≤ x.2 ∧ x.2 ≤ 4) : 0 ≤ sumP l ∧ sumP l ≤ 16 * l.length := by
  induction l with
  | nil => exact ⟨Int.le_refl _, Int.le_refl _⟩
  | cons x l ih =>
    have h1 := h x (by simp)
    have h2 := ih fun y hy => h y (by simp [hy])
    have e : sumP (x :: l) = x.1 * x.2 + sumP l := by simp [sumP]
    have p1 : 0 ≤ x.1 * x.2 := Int.mul_nonneg (by omega) (by omega)
    have p2 : x.1 * x.2 ≤ 4 * 4 := Int.mul_le_mul h1.2.1 h1.2.2.2 (by omega) (by omega)
    rw [e, List.length_cons]
    omega
end Go.Proofs.Ytpnkjcahhpbpfaa
