/- Walks of package bits: the writer's Put, Mark, Bytes. -/
import Derived.Test.YtmoennlpendknaaOwn
import Derived.Laws.CopyOwn
namespace Go.Proofs.Ytmoennlpendknaa
open Go.RowKit

theorem put_or (part n v : Nat) (hn : n ≤ 16) (hp : part < 128) (hv : v < 2 ^ n) :
    bits .or .i64 (wrap64 ((part : Int) * 2 ^ n)) (v : Int) = ((part * 2 ^ n + v : Nat) : Int) ∧ part * 2 ^ n + v < 16777216 := by
  have h1 : 2 ^ n ≤ 2 ^ 16 := Nat.pow_le_pow_right (by omega) hn
  have h3 : part * 2 ^ n + 2 ^ n ≤ 128 * 2 ^ 16 := by
    rw [← Nat.succ_mul]
    exact Nat.mul_le_mul hp h1
  have e2 : (part : Int) * 2 ^ n = ((part * 2 ^ n : Nat) : Int) := by simp
  refine ⟨?_, by omega⟩
  rw [e2, wrap64_nat _ (by omega), i64_or_nat _ _ (by omega) (by omega), or_pow _ _ _ hv]
theorem pow_128 (r : Nat) (x : Nat) (hr : r < 8) (h : x < 2 ^ r) : x < 128 := by
  have : 2 ^ r ≤ 2 ^ 7 := Nat.pow_le_pow_right (by omega) (by omega)
  omega
theorem shr_zero (v n : Nat) (h : v < 2 ^ n) : ((v : Int) / 2 ^ n != 0) = false := by
  have : (v : Int) / 2 ^ n = ((v / 2 ^ n : Nat) : Int) := by simp
  rw [this, Nat.div_eq_of_lt h]
  rfl

set_option maxHeartbeats 2000000 in
theorem Put_yes (B k : Nat) (out : List UInt8) (part put v n : Nat) (w : World) (h : Wr B k out part put w) (hv : v < 2 ^ n) (hn : n ≤ 16) (hp : put < 4611686018427387904) (hpart : part < 2 ^ (put % 8)) (hout : out.length ≤ 900000) :
    Calls Try.prog 32 #[.pointer (some ⟨k, 0, none⟩), .int .i64 v, .int .i64 n] w fun e w' => e = .returned (.int .i64 0) ∧
      Wr B k (out ++ emit (put % 8 + n) (part * 2 ^ n + v)) ((part * 2 ^ n + v) % 2 ^ ((put % 8 + n) % 8)) (put + n) w' ∧ Below B w w' ∧ Lib.OthersKept 5 (some k) w w' := by
  obtain ⟨hBk, v0, hw0, ho0⟩ := h
  have hw0 : WrV k v0 part put w := hw0
  have h1 := hw0.cPart
  have hlt := hw0.lt
  have hsz := shr_zero v n hv
  have hpo := put_or part n v hn (pow_128 _ _ (Nat.mod_lt _ (by omega)) hpart) hv
  have hC := fun w (h : WrV k v0 part put w) => begun_any k v0 part put w h hp
  have h8 : put % 8 < 8 := Nat.mod_lt _ (by omega)
  generalize put % 8 = r at *
  have hX := hpo.1
  have hXl := hpo.2
  generalize part * 2 ^ n + v = P at hX hXl ⊢
  have HX := Lib.hid hX
  have HC := Lib.hid hC
  have HW := Lib.hid hw0
  have HO := Lib.hid ho0
  clear hC hX hpo hw0 ho0 hv hpart
  go_enter Try.func32, Try.ntmps32
  go_wp2_with (go_at_call 37; refine (counted_yes n (by omega) (by omega) w).mono ?_; rintro e w' ⟨rfl, rfl⟩)
  go_quiet ((go_at_call 38; exact Calls.quiet_of_same ((HC.out _ (by exact HW.out)).mono fun e w' h => ⟨h.1, h.2.symm⟩)))
  go_wp2
  rw [HX.out]
  clear HX
  go_loopw [7] (fun x wr => ∃ (j : Nat) (o : List UInt8) (u : Value), x = .int .i64 j ∧ j ≤ r + n ∧ o ++ emit j P = out ++ emit (r + n) P ∧ j % 8 = (r + n) % 8 ∧ o.length + 2 * j ≤ out.length + 2 * (r + n) ∧ WrV k u part put wr ∧ Owns B u o wr ∧ Below B w wr ∧ Lib.OthersKept 5 (some k) w wr) (fun x _ => (intOf x).toNat)
  case atStart => exact ⟨r + n, out, v0, by go_num, Nat.le_refl _, rfl, rfl, Nat.le_refl _, HW.out, HO.out, below_drewN _ _ _, Lib.OthersKept.refl _ _ _⟩
  case round =>
    obtain ⟨j, o, u, rfl, hj, he, hm, hl, hw, ho, hb, hk⟩ := hrel
    have HW2 := Lib.hid hw
    have HO2 := Lib.hid ho
    have HB2 := Lib.hid hb
    have HK2 := Lib.hid hk
    have hs2 := hb.size
    have n0 := hw.cOut
    have f0 := hw.free 0
    clear hw ho hb hk
    by_cases h8j : 8 ≤ j
    · have hem := emit_long j P h8j
      have hE := he
      rw [hem] at hE
      have HE := Lib.hid hE
      have HMM := Lib.hid hm
      clear hE hem he hm
      have hd : P / 2 ^ (j - 8) % 256 < 256 := Nat.mod_lt _ (by omega)
      have hdl := data_length (P / 2 ^ (j - 8) % 256)
      have hv1 : IntKind.u8.wrap ((P : Int) / 2 ^ ((j : Int) - 8).toNat) = ((P / 2 ^ (j - 8) % 256 : Nat) : Int) := by
        rw [show ((j : Int) - 8).toNat = j - 8 by omega]
        simp [IntKind.wrap, IntKind.bits, IntKind.signed]
      generalize P / 2 ^ (j - 8) % 256 = D at *
      have HV := Lib.hid hv1
      have HA := Lib.hid (appendData_any B u o D hd wr.drew HO2.out (by omega) (by simp; omega))
      clear hv1
      go_wp2
      go_region_with (go_at_call 39; rw [HV.out]; refine HA.out.mono ?_; rintro e w1 ⟨v', rfl, o1, b1, k1⟩; obtain ⟨p1, m1, q1, rfl, _⟩ := o1.shape; have hw1 : WrV k u part put w1 := WrV.kept (w := wr.drew) HW2.out k1; have c1 := hw1.cOut; have f1 := hw1.free 0)
      all_goals
        have HW3 := Lib.hid (hw1.setOut (.slice p1 m1 q1))
        have HO3 := Lib.hid (o1.setCell hw1 0 (.slice p1 m1 q1))
        have HB3 : Hid (Below B w (w1.setCell ⟨k, 0, none⟩ (.slice p1 m1 q1))) := (HB2.out.trans (Below.trans (b := wr.drew) ⟨rfl, rfl, rfl, Nat.le_refl _, fun _ _ => rfl⟩ b1)).setCell hBk _
        have HK3 : Hid (Lib.OthersKept 5 (some k) w (w1.setCell ⟨k, 0, none⟩ (.slice p1 m1 q1))) := (HK2.out.trans (Lib.OthersKept.trans (c := wr.drew) (Lib.OthersKept.refl _ _ _) (OthersKept.some k k1))).setCell _ rfl _
        clear o1 b1 k1 hw1 c1 f1
        go_wp2
        go_roundw
        case rel => exact ⟨j - 8, o ++ data D, .slice p1 m1 q1, by go_num, by omega, by rw [List.append_assoc]; exact HE.out, by have := HMM.out; omega, by rw [List.length_append]; omega, HW3.out, HO3.out, HB3.out, HK3.out⟩
        case measure => simp [intOf]; omega
    · have hes := emit_short j P (by omega)
      rw [hes, List.append_nil] at he
      have hjm : j = (r + n) % 8 := by omega
      have HE := Lib.hid he
      have HJ := Lib.hid hjm
      have HL := Lib.hid (lowest_any P j hXl (by omega))
      have n1 := HW2.out.cPart
      have f1 := HW2.out.free 1
      have n2 := HW2.out.cPut
      have f2 := HW2.out.free 2
      clear he hes hjm hm
      go_wp2_with fail
      go_at_call 40
      refine (HL.out _).mono ?_
      rintro e w' ⟨rfl, rfl⟩
      go_wp2
      have hp1 := HW2.out.setPart (P % 2 ^ j) ((P : Int) % 2 ^ j) (by simp)
      have ho1 := HO2.out.setCell HW2.out 1 (.int .i64 ((P : Int) % 2 ^ j))
      have hp2 := hp1.setPut (put + n) ((put : Int) + (n : Int)) (by omega)
      have ho2 := ho1.setCell hp1 2 (.int .i64 ((put : Int) + (n : Int)))
      go_ret
      refine ⟨rfl, ⟨hBk, u, ?_, ?_⟩, (HB2.out.setCell (p := ⟨k, 1, none⟩) hBk _).setCell (p := ⟨k, 2, none⟩) hBk _, (HK2.out.setCell ⟨k, 1, none⟩ rfl _).setCell ⟨k, 2, none⟩ rfl _⟩
      · rw [← HJ.out]; exact hp2
      · rw [← HE.out]; exact ho2

theorem shr_ne (v : Int) (n : Nat) (h : v < 0 ∨ ((2 ^ n : Nat) : Int) ≤ v) : (v / 2 ^ n != 0) = true := by
  rw [bne_iff_ne, show (2 : Int) ^ n = ((2 ^ n : Nat) : Int) by simp]
  have hp : (0 : Int) < ((2 ^ n : Nat) : Int) := by have := Nat.two_pow_pos n; omega
  rcases h with h | h
  · have := Int.ediv_neg_of_neg_of_pos h hp; omega
  · have := Int.le_ediv_of_mul_le hp (show 1 * ((2 ^ n : Nat) : Int) ≤ v by omega); omega
set_option maxHeartbeats 1000000 in
theorem Put_large (k : Nat) (v : Int) (n : Nat) (w : World) (hv : v < 0 ∨ ((2 ^ n : Nat) : Int) ≤ v) (hn : n ≤ 16) :
    Calls Try.prog 32 #[.pointer (some ⟨k, 0, none⟩), .int .i64 v, .int .i64 n] w fun e w' => e = .returned (.int .i64 11) ∧ w = w' := by
  have hsz := shr_ne v n hv
  clear hv
  go_enter Try.func32, Try.ntmps32
  go_wp2_with (go_at_call 37; refine (counted_yes n (by omega) (by omega) w).mono ?_; rintro e w' ⟨rfl, rfl⟩)
  go_ret
  exact ⟨rfl, rfl⟩
set_option maxHeartbeats 1000000 in
theorem Put_arg (k : Nat) (v z : Int) (w : World) (hz : z < 0 ∨ 16 < z) :
    Calls Try.prog 32 #[.pointer (some ⟨k, 0, none⟩), .int .i64 v, .int .i64 z] w fun e w' => e = .returned (.int .i64 1) ∧ w = w' := by
  have HZ := Lib.hid hz
  clear hz
  go_enter Try.func32, Try.ntmps32
  go_wp2_with (go_at_call 37; refine (counted_no z HZ.out w).mono ?_; rintro e w' ⟨rfl, rfl⟩)
  go_ret
  exact ⟨rfl, rfl⟩
set_option maxHeartbeats 1000000 in
theorem Put_nil (v z : Int) (w : World) :
    Calls Try.prog 32 #[.pointer none, .int .i64 v, .int .i64 z] w fun e w' => e = .returned (.int .i64 1) ∧ w = w' := by
  go_enter Try.func32, Try.ntmps32
  go_wp2
  go_ret
  exact ⟨rfl, rfl⟩
set_option maxHeartbeats 1000000 in
theorem Bytes_nil (w : World) : Calls Try.prog 15 #[.pointer none] w fun e w' => e = .returned (.string ⟨#[]⟩) ∧ w = w' := by
  go_enter Try.func15, Try.ntmps15
  go_wp2
  go_ret
  exact ⟨rfl, rfl⟩
theorem make_two (L : Nat) (hL : L ≤ 900000) (w : World) : (Instr.makeSlice 67 (.int .i64 (L : Int)) (.int .i64 ((L : Int) + 2))).run Try.prog w = .ok (.slice (some ⟨w.heap.size, 0, none⟩) L (L + 2)) (w.alloc (.cells (madeCells #[.int .u8 0] (L + 2)) 5)) := by
  obtain ⟨i, hi, hz, hs, hb⟩ := info_parts info5
  have hr := run_make (P := Try.prog) w 67 5 i (.int .u8 0) Try.underlying67 hi hz .i64 .i64 (L : Int) ((L : Int) + 2) (by omega) (by omega) (by rw [hb]; omega) (by omega)
  rw [hs] at hr
  simp only [Int.toNat_natCast, Nat.mul_one, show ((L : Int) + 2).toNat = L + 2 by omega] at hr
  exact hr
theorem copy_out (w : World) (g L q0 : Nat) (p0 : Option Addr) (cur cs : List Value) (hg : w.heap[g]? = some (.cells cur.toArray 5 (0, 0))) (hl : cs.length = L)
    (hpos : 0 < cs.length → (some ⟨g, 0, none⟩ : Option Addr) = some ⟨g, 0, none⟩ ∧ ∃ ad, p0 = some ad ∧ ∀ j v, cs[j]? = some v → w.cell? (ad.add j) = some v) (hfit : L ≤ cur.length) (h1 : ∀ v ∈ cs, v.oneCell' = true) :
    ∃ w3, (Builtin.copy_ #[67, 67] 3 #[.slice (some ⟨g, 0, none⟩) L (L + 2), .slice p0 L q0]).run Try.prog w = .ok (goInt L) w3 ∧ w3.heap[g]? = some (.cells (splice cur 0 cs).toArray 5 (0, 0)) ∧ Below g w w3 := by
  subst hl
  by_cases h0 : cs.length = 0
  · obtain rfl : cs = [] := List.eq_nil_of_length_eq_zero h0
    refine ⟨w, run_copy_none (P := Try.prog) w 67 67 3 5 _ _ _ _ _ _ Try.underlying67 (by kernel_rfl) (by simp), ?_, Below.refl _ _⟩
    simpa [splice] using hg
  · obtain ⟨_, ad, rfl, hsrc⟩ := hpos (by omega)
    refine ⟨_, run_copy_row (P := Try.prog) w 67 67 3 5 g 0 cs.length (cs.length + 2) ad cs.length q0 cur.toArray 5 cs Try.underlying67 (by kernel_rfl) hg (by simp) hsrc (by simpa using hfit) h1, ?_, below_setRow (Below.refl _ _) (Nat.le_refl _) _⟩
    simpa [splice] using setRow_heap w g _ _ 5 _ hg
set_option maxHeartbeats 1000000 in
theorem Bytes_any (B k : Nat) (out : List UInt8) (part put : Nat) (w : World) (h : Wr B k out part put w) (hp : put < 4611686018427387904) (hpart : part < 2 ^ (put % 8)) (hout : out.length ≤ 900000) :
    Calls Try.prog 15 #[.pointer (some ⟨k, 0, none⟩)] w fun e w' => e = .returned (.string ⟨(out ++ fillb part put).toArray⟩) ∧ Below w.heap.size w w' := by
  obtain ⟨hBk, v0, hw0, ho0⟩ := h
  have hw0 : WrV k v0 part put w := hw0
  obtain ⟨p0, q0, rfl⟩ := ho0.len
  have n0 := hw0.cOut
  have HW := Lib.hid hw0
  have HO := Lib.hid ho0
  clear hw0 ho0
  have hmk := make_two out.length hout
  go_enter Try.func15, Try.ntmps15
  go_wp2
  go_region
  have hbw : Below w.heap.size w (w.alloc (.cells (madeCells #[.int .u8 0] (out.length + 2)) 5)).drew := ((Below.refl _ _).alloc (Nat.le_refl _) _).drew
  have hgr : (w.alloc (.cells (madeCells #[.int .u8 0] (out.length + 2)) 5)).drew.heap[w.heap.size]? = some (.cells ((madeCells #[.int .u8 0] (out.length + 2)).toList).toArray 5 (0, 0)) := by
    rw [Array.toArray_toList]; exact heap_alloc_new w _
  have hcl : ((madeCells #[.int .u8 0] (out.length + 2)).toList).length = out.length + 2 := by simp [size_madeCells]
  generalize (w.alloc (.cells (madeCells #[.int .u8 0] (out.length + 2)) 5)).drew = w2 at hbw hgr ⊢
  generalize (madeCells #[.int .u8 0] (out.length + 2)).toList = cur at hgr hcl
  have HB2 := Lib.hid hbw
  have HG2 := Lib.hid hgr
  have HCL := Lib.hid hcl
  have hw2 := HW.out.on hbw
  have HW2 := Lib.hid hw2
  have HO2 := Lib.hid (HO.out.below hbw)
  have c0 := hw2.cOut
  obtain ⟨cs, hcs⟩ : ∃ cs, cs = Lib.byteCells out := ⟨_, rfl⟩
  have hcsl : cs.length = out.length := by rw [hcs, Lib.byteCells_length]
  have HCS := Lib.hid hcs
  have HCSL := Lib.hid hcsl
  have hpos : 0 < cs.length → (some ⟨w.heap.size, 0, none⟩ : Option Addr) = some ⟨w.heap.size, 0, none⟩ ∧ ∃ ad, p0 = some ad ∧ ∀ j v, cs[j]? = some v → w2.cell? (ad.add j) = some v := by
    intro h0
    refine ⟨rfl, ?_⟩
    rcases HO2.out.2 with ⟨h1, h2⟩ | ⟨g, cap, cur', h1, _⟩
    · omega
    · simp only [Value.slice.injEq] at h1
      obtain ⟨rfl, _, rfl⟩ := h1
      exact ⟨_, rfl, fun j v hj => World.ownsRow.cells HO2.out (g := g) rfl j v (by rw [← hcs]; exact hj)⟩
  have HPOS := Lib.hid hpos
  have h1c : ∀ v ∈ cs, v.oneCell' = true := by
    intro v hv
    rw [hcs] at hv
    simp only [Lib.byteCells, List.mem_map] at hv
    obtain ⟨b, _, rfl⟩ := hv
    rfl
  have H1C := Lib.hid h1c
  clear hbw hgr hcl hw2 hcs hcsl hpos h1c hmk n0
  obtain ⟨w3, hrun, hg3, hb3⟩ := copy_out w2 w.heap.size out.length q0 p0 cur cs HG2.out HCSL.out HPOS.out (by rw [HCL.out]; omega) H1C.out
  have h23 : Below w.heap.size w w3 := HB2.out.trans hb3
  have HB3 := Lib.hid h23
  have hw3 := HW.out.on h23
  have HW3 := Lib.hid hw3
  have hs3 := h23.size
  have ho3 : Owns w.heap.size (.slice (some ⟨w.heap.size, 0, none⟩) out.length (out.length + 2)) out w3 := by
    refine ⟨by rw [Lib.byteCells_length, Nat.mul_one], .inr ⟨w.heap.size, out.length + 2, _, rfl, Nat.le_refl _, hg3, by omega, by unfold maxLen; omega, ?_, ?_⟩⟩
    · have := length_splice cur 0 cs (by rw [HCSL.out, HCL.out]; omega)
      rw [HCL.out] at this
      simpa using this
    · unfold splice
      simp only [List.take_zero, List.nil_append, Nat.mul_one, Nat.zero_add]
      rw [← HCSL.out, List.take_left, HCS.out]
  have HO3 := Lib.hid ho3
  clear hg3 hb3 h23 hw3 ho3
  go_wp2_with fail
  go_at_call 33
  refine (filled_any w.heap.size k _ _ out part put w3 HW3.out HO3.out hs3 (by omega) hp hpart).mono ?_
  rintro e w4 ⟨v4, rfl, o4, b4, _⟩
  have HB4 := Lib.hid (HB3.out.trans b4)
  have hcv := owns_conv o4
  clear o4 b4 hrun
  go_wp2
  go_ret
  exact ⟨rfl, HB4.out⟩
end Go.Proofs.Ytmoennlpendknaa
