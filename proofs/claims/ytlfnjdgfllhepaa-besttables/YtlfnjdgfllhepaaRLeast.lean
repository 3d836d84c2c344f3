/- A walk of the document's Least. -/
import Derived.Test.YtlfnjdgfllhepaaBGrp
namespace Go.Proofs.Ytlfnjdgfllhepaa
open Go.RowKit

theorem gat_out {l : List Grp} {B : Nat} {q n c : Nat} {w : World} (h : GL B (.slice (some ⟨q, 0, none⟩) n c) l w) {i : Nat} (hi : i < l.length) {F N : Nat} (hF : (gat l i).first = F) (hN : (gat l i).n = N) :
    w.cell? ⟨q, i * 3, none⟩ = some (.int .i64 (F : Nat)) ∧ w.cell? ⟨q, i * 3 + 1, none⟩ = some (.int .i64 (N : Nat)) := by
  obtain ⟨h1, h2, _⟩ := h.cells hi
  rw [hF] at h1
  rw [hN] at h2
  exact ⟨h1, h2⟩

set_option maxHeartbeats 2000000 in
set_option maxRecDepth 100000 in
theorem Least_any (l : List Grp) (hlen : l.length ≤ 900) (z : Int) (b : Nat) (hz : ∀ i : Nat, i < l.length → ((i : Int) = z ↔ i = b)) (B q n c : Nat) (hn : n = l.length) (R : Option Nat) (hR : R = lpos l b n)
    (w : World) (hw : GL B (.slice (some ⟨q, 0, none⟩) n c) l w) :
    Calls Try.prog 37 #[.slice (some ⟨q, 0, none⟩) n c, .int .i64 z] w fun e w' => e = .returned (.int .i64 (oi R)) ∧ Below w.heap.size w w' := by
  have HZ := Lib.hid hz
  have HR := Lib.hid hR
  have HW0 := Lib.hid hw
  have HNL := Lib.hid hn
  clear hz hR hw
  rw [← hn] at hlen
  clear hn
  go_enter Try.func37, Try.ntmps37
  go_wp2
  go_loopw [5, 6] (fun f i wr => ∃ m : Nat, m ≤ n ∧ i = .int .i64 m ∧ f = .int .i64 (oi (lpos l b m)) ∧ Below w.heap.size w wr) (fun _ i _ => n - (intOf i).toNat)
  case atStart => exact ⟨0, by omega, rfl, rfl, Below.refl _ _⟩
  case round =>
    obtain ⟨m, hm, rfl, rfl, hlow⟩ := hrel
    have HW := Lib.hid hlow
    have HK := Lib.hid (HW0.out.below hlow)
    clear hlow
    by_cases hlt : m < n
    · have hml : m < l.length := by rw [← HNL.out]; exact hlt
      by_cases hnb : m = b
      · have HS := Lib.hid (lpos_skip (l := l) hnb)
        have e2 : ((m : Int) == z) = true := by rw [beq_iff_eq]; exact (HZ.out m hml).2 hnb
        clear hnb hml
        rw [← HS.out]
        obtain ⟨X, hX⟩ : ∃ X, X = oi (lpos l b (m + 1)) := ⟨_, rfl⟩
        rw [← hX]
        have HX := Lib.hid hX
        clear hX
        go_wp2
        go_roundw
        case rel => exact ⟨m + 1, by omega, by go_num, by rw [HX.out], HW.out⟩
        case measure => simp [intOf]; omega
      · have e2 : ((m : Int) == z) = false := by rw [beq_eq_false_iff_ne]; exact fun h => hnb ((HZ.out m hml).1 h)
        have hkm := HK.out.cells hml
        cases hA : lpos l b m with
        | none =>
          have HS := Lib.hid (lpos_first hnb hA)
          have e0 : decide ((-1 : Int) < 0) = true := by decide
          clear hA hnb hkm hml
          rw [show oi none = -1 from rfl]
          go_wp2
          go_quiet (fail)
          go_wp2
          go_roundw
          case rel => exact ⟨m + 1, by omega, by go_num, by rw [HS.out, oi_some], below_drawn HW.out _⟩
          case measure => simp [intOf]; omega
        | some f =>
          have hL := (lpos_some hA).1
          have hfl : f < l.length := by omega
          obtain ⟨F1, hF1⟩ : ∃ x, (gat l m).first = x := ⟨_, rfl⟩
          obtain ⟨N1, hN1⟩ : ∃ x, (gat l m).n = x := ⟨_, rfl⟩
          obtain ⟨F2, hF2⟩ : ∃ x, (gat l f).first = x := ⟨_, rfl⟩
          obtain ⟨N2, hN2⟩ : ∃ x, (gat l f).n = x := ⟨_, rfl⟩
          obtain ⟨x0, x1⟩ := gat_out HK.out hml hF1 hN1
          obtain ⟨x2, x3⟩ := gat_out HK.out hfl hF2 hN2
          have e3 : decide ((f : Int) < 0) = false := decide_eq_false (by omega)
          have hf : f < n := by omega
          clear hL hkm
          rw [show oi (some f) = (f : Int) from rfl]
          by_cases hle : Grp.Ahead (gat l m) (gat l f)
          · have HS := Lib.hid (lpos_take hnb hA hle)
            unfold Grp.Ahead at hle
            rw [hF1, hN1, hF2, hN2] at hle
            clear hA hnb hF1 hN1 hF2 hN2 hml hfl
            by_cases h1 : N1 < N2
            · have e4 : decide (N1 < N2) = true := decide_eq_true (by omega)
              clear hle h1
              go_wp2
              go_quiet (fail)
              go_wp2
              go_roundw
              case rel => exact ⟨m + 1, by omega, by go_num, by rw [HS.out, oi_some], below_drawn HW.out _⟩
              case measure => simp [intOf]; omega
            · have e4 : decide (N1 < N2) = false := decide_eq_false (by omega)
              have e5 : ((N1 : Int) == (N2 : Int)) = true := by rw [beq_iff_eq]; omega
              have e7 : (N1 == N2) = true := by rw [beq_iff_eq]; omega
              have e6 : decide (F2 < F1) = true := decide_eq_true (by omega)
              clear hle h1
              go_wp2
              go_quiet (fail)
              go_wp2
              go_roundw
              case rel => exact ⟨m + 1, by omega, by go_num, by rw [HS.out, oi_some], below_drawn HW.out _⟩
              case measure => simp [intOf]; omega
          · have HS := Lib.hid (lpos_keep hnb hA hle)
            unfold Grp.Ahead at hle
            rw [hF1, hN1, hF2, hN2] at hle
            clear hA hnb hF1 hN1 hF2 hN2 hml hfl
            have e4 : decide (N1 < N2) = false := decide_eq_false (by omega)
            by_cases h1 : N1 = N2
            · have e5 : ((N1 : Int) == (N2 : Int)) = true := by rw [beq_iff_eq]; omega
              have e7 : (N1 == N2) = true := by rw [beq_iff_eq]; omega
              have e6 : decide (F2 < F1) = false := decide_eq_false (by omega)
              clear hle h1
              go_wp2
              go_quiet (fail)
              go_wp2
              go_roundw
              case rel => exact ⟨m + 1, by omega, by go_num, by rw [HS.out, oi_some], below_drawn HW.out _⟩
              case measure => simp [intOf]; omega
            · have e5 : ((N1 : Int) == (N2 : Int)) = false := by rw [beq_eq_false_iff_ne]; omega
              have e7 : (N1 == N2) = false := by rw [beq_eq_false_iff_ne]; omega
              clear hle h1
              go_wp2
              go_quiet (fail)
              go_wp2
              go_roundw
              case rel => exact ⟨m + 1, by omega, by go_num, by rw [HS.out, oi_some], below_drawn HW.out _⟩
              case measure => simp [intOf]; omega
    · obtain rfl : m = n := by omega
      rw [← HR.out]
      clear hlt
      go_wp2
      go_ret
      exact ⟨rfl, HW.out⟩
end Go.Proofs.Ytlfnjdgfllhepaa
