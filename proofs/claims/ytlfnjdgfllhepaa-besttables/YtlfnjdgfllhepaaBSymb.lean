/- The program's symbols: its walk. -/
import Derived.Test.YtlfnjdgfllhepaaBSym
namespace Go.Proofs.Ytlfnjdgfllhepaa
open Go.RowKit

set_option maxHeartbeats 400000 in
set_option maxRecDepth 100000 in
theorem symbols_at (L : Nat → Nat) (N : Nat) (hN : N = 256) (hne : come L N ≠ []) (S : List UInt8) (hS : S = syms L) (w : World) :
    Calls Try.prog 20 #[.agg (ints 257 fun i => (L i : Int))] w fun e w' => e = .returned (.string ⟨S.toArray⟩) ∧ Below w.heap.size w w' := by
  obtain ⟨wb, hwb⟩ : ∃ wb, wb = w.alloc (.cells (ints 257 fun i => (L i : Int)) 47) := ⟨_, rfl⟩
  have R0 : Hid (RowN 47 257 w.heap.size (fun i => (L i : Int)) wb) := by rw [hwb]; exact RowN.new rfl
  have R1 : Hid (Below w.heap.size w wb) := by rw [hwb]; exact (Below.refl _ _).alloc (Nat.le_refl _) _
  have R2 : Hid (w.heap.size + 1 ≤ wb.heap.size) := by rw [hwb, size_alloc]; exact Nat.le_refl _
  have HN := Lib.hid hne
  have HN0 := Lib.hid hN
  have HS := Lib.hid hS
  clear hne hS hN
  go_enter Try.func20, Try.ntmps20
  go_wp2
  rw [← hwb]
  clear hwb
  go_loopw [3, 5] (fun v i wr => ∃ n : Nat, n ≤ 256 ∧ i = .int .i64 n ∧ Owns (w.heap.size + 1) v (come L n) wr ∧ RowN 47 257 w.heap.size (fun i => (L i : Int)) wr ∧ Below w.heap.size w wr) (fun _ i _ => 256 - (intOf i).toNat)
  case atStart => exact ⟨0, by omega, rfl, ⟨rfl, .inl ⟨rfl, rfl⟩⟩, R0.out, R1.out⟩
  case round =>
    obtain ⟨n, hn, rfl, h1, h2, h3⟩ := hrel
    have H1 := Lib.hid h1
    have H2 := Lib.hid h2
    have H3 := Lib.hid h3
    have hlt0 := h2.lt
    clear h1 h2 h3
    by_cases hlt : n < 256
    · have x0 := H2.out.cell (i := n) (by omega)
      by_cases h0 : L n = 0
      · have HE : Hid (come L (n + 1) = come L n) := by
          show come L n ++ (if L n = 0 then [] else _) = _
          rw [if_pos h0, List.append_nil]
        rw [h0] at x0
        clear h0
        go_wp2
        go_roundw
        case rel => exact ⟨n + 1, by omega, by go_num, by rw [HE.out]; exact H1.out, H2.out, H3.out⟩
        case measure => simp [intOf]; omega
      · have HE : Hid (come L (n + 1) = come L n ++ [n.toUInt8]) := by
          show come L n ++ (if L n = 0 then [] else _) = _
          rw [if_neg h0]
        have hp : 0 < L n := by omega
        have hcl := come_length L n
        have HB : Hid ([Value.int .u8 (n : Int)] = Lib.byteCells [n.toUInt8]) := by
          show _ = [Value.int .u8 ((n.toUInt8.toNat : Nat) : Int)]
          rw [toU_toNat n hlt]
        clear h0
        generalize L n = q at *
        go_wp2_with (refine wpList_app rfl _ _ rfl (w.heap.size + 1) u3 (come L n) 1 _ [n.toUInt8] HB.out rfl rfl rfl H1.out (by simp; omega) (by omega) ?_; intro v' w' o1 b1 k1)
        exact ⟨⟨n + 1, by omega, by go_num, by rw [HE.out]; exact o1, H2.out.onB b1 (by omega), H3.out.trans (b1.mono (by omega))⟩, by simp [intOf]; omega⟩
    · obtain rfl : n = 256 := by omega
      clear hlt
      have HC : Hid (Calls Try.prog 31 #[u3, .func (.func 32) #[] #[.pointer (some ⟨w.heap.size, 0, none⟩)]] wr fun e w' => e = .returned (.tuple #[]) ∧ Owns (w.heap.size + 1) u3 S w' ∧ Below (w.heap.size + 1) wr w') := by
        have h := sort_own w.heap.size (w.heap.size + 1) L u3 wr H1.out (HN0.out ▸ HN.out) (by omega) H2.out (by omega)
        rw [← HS.out] at h
        exact h
      clear HN HN0 H1
      go_wp2_with (go_at_call 31; refine HC.out.mono ?_; rintro e w1 ⟨rfl, o1, b1⟩; have hcv := owns_conv o1)
      go_ret
      exact ⟨rfl, H3.out.trans (b1.mono (by omega))⟩
theorem symbols_any (L : Nat → Nat) (hne : come L 256 ≠ []) (w : World) :
    Calls Try.prog 20 #[.agg (ints 257 fun i => (L i : Int))] w fun e w' => e = .returned (.string ⟨(syms L).toArray⟩) ∧ Below w.heap.size w w' := symbols_at L 256 rfl hne _ rfl w
end Go.Proofs.Ytlfnjdgfllhepaa
