/- Walk of the law's own: FrameOwns. -/
import Derived.Test.YtpnkjcahhpbpfaaFAwk
import Derived.Test.YtpnkjcahhpbpfaaFUp
import Derived.Test.YtpnkjcahhpbpfaaFZ
namespace Go.Proofs.Ytpnkjcahhpbpfaa
open Go.RowKit

/-- Arithmetic that is known. -/
theorem wpList_arith {ops : Array Oper} {rest : List Oper} {o : Oper} {a : Act} {w : World} {Q : Exit → Act → World → Prop} (hw : Region.wanted o (yielded ops a.tmps) = true) (b : BinOp) (x y : Operand) (t : TypeId) (ho : o.op = .binOp b 3 x y t) (p q z : Int)
    (hx : a.eval x = .int .i64 p) (hy : a.eval y = .int .i64 q) (hz : ∀ w, (binOp b 3 (.int .i64 p) (.int .i64 q)).run Try.prog w = .ok (.int .i64 z) w) (hg : ∀ w, (eqGuard b 3 x y (.int .i64 p) (.int .i64 q)).run Try.prog w = .ok () w) (h : wpList Try.prog ops Q rest (a.put o.dst (.int .i64 z)) w) : wpList Try.prog ops Q (o :: rest) a w := by
  unfold wpList
  rw [if_pos hw]
  refine .inl ?_
  unfold Oper.wp execOp
  simp only [ho, hx, hy, Sem.run_bind, hg, hz, Result.andThen_ok, Sem.run_pure]
  exact h
theorem bin_mul (p q z : Int) (h : wrap64 (p * q) = z) (w : World) : (binOp .mul 3 (.int .i64 p) (.int .i64 q)).run Try.prog w = .ok (.int .i64 z) w := by
  subst h
  simp [binOp, Op.intArith, go_sem, IntWalk.i64_left]
theorem bin_sub (p q z : Int) (h : wrap64 (p - q) = z) (w : World) : (binOp .sub 3 (.int .i64 p) (.int .i64 q)).run Try.prog w = .ok (.int .i64 z) w := by
  subst h
  simp [binOp, Op.intArith, go_sem, IntWalk.i64_left]
theorem bin_rem (p q z : Int) (hq : q ≠ 0) (h : p.tmod q = z) (w : World) : (binOp .rem 3 (.int .i64 p) (.int .i64 q)).run Try.prog w = .ok (.int .i64 z) w := by
  subst h
  simp [binOp, Op.intDiv, go_sem, hq]
theorem bin_quo (p q z : Int) (hq : q ≠ 0) (h : wrap64 (p.tdiv q) = z) (w : World) : (binOp .quo 3 (.int .i64 p) (.int .i64 q)).run Try.prog w = .ok (.int .i64 z) w := by
  subst h
  simp [binOp, Op.intDiv, go_sem, IntWalk.i64_left, hq]
theorem guard_rem (x y : Operand) (p q : Value) (w : World) : (eqGuard .rem 3 x y p q).run Try.prog w = .ok () w := by simp [eqGuard, go_sem]
theorem guard_quo (x y : Operand) (p q : Value) (w : World) : (eqGuard .quo 3 x y p q).run Try.prog w = .ok () w := by simp [eqGuard, go_sem]
/-- The same in a region that only reads. -/
theorem wpQuiet_arith {ops : Array Oper} {rest : List Oper} {o : Oper} {a : Act} {C : World → Prop} {Q : Act → Prop} (hw : Region.wanted o (yielded ops a.tmps) = true) (b : BinOp) (x y : Operand) (t : TypeId) (ho : o.op = .binOp b 3 x y t) (p q z : Int)
    (hx : a.eval x = .int .i64 p) (hy : a.eval y = .int .i64 q) (hz : ∀ w, (binOp b 3 (.int .i64 p) (.int .i64 q)).run Try.prog w = .ok (.int .i64 z) w) (hg : ∀ w, (eqGuard b 3 x y (.int .i64 p) (.int .i64 q)).run Try.prog w = .ok () w) (hne : ∃ w, C w) (d : Option Tmp) (hd : o.dst = d)
    (h : ∀ K : Act → Prop, (∀ a, wpQuiet Try.prog ops C Q rest a → K a) → Oper.quiet Try.prog (Oper.mk d (.assign (.const (.int .i64 z))) 0 "" #[] none) a C K) : wpQuiet Try.prog ops C Q (o :: rest) a := by
  obtain ⟨u, h1, h2⟩ := h _ (fun _ h => h)
  obtain ⟨w0, hw0⟩ := hne
  obtain rfl : Value.int .i64 z = u := by
    have h3 := h1 w0 hw0
    unfold Oper.quietAt at h3
    simp only [execOp, Sem.run_pure, Oper.quietUpon] at h3
    exact h3.2
  unfold wpQuiet
  rw [if_pos hw]
  refine ⟨.int .i64 z, fun w _ => ?_, by rw [hd]; exact h2⟩
  unfold Oper.quietAt execOp
  simp only [ho, hx, hy, Sem.run_bind, hg, hz, Result.andThen_ok, Sem.run_pure]
  exact ⟨rfl, rfl⟩
theorem guard_mul (x y : Operand) (p q : Value) (w : World) : (eqGuard .mul 3 x y p q).run Try.prog w = .ok () w := by simp [eqGuard, go_sem]
theorem guard_sub (x y : Operand) (p q : Value) (w : World) : (eqGuard .sub 3 x y p q).run Try.prog w = .ok () w := by simp [eqGuard, go_sem]
set_option maxRecDepth 100000 in
set_option maxHeartbeats 4000000 in
theorem owns_long (x y : Int) (v : Value) (l : List FP) (hl : 100 < l.length) (w : World) (hv : RowZ 2 cellsF v l w) :
    Calls Try.prog 6 #[.int .i64 x, .int .i64 y, v] w fun e w' => e = .returned (.bool true) ∧ Below w.heap.size w w' := by
  obtain ⟨p, m, c, rfl, hm⟩ := hv.shape
  have hm2 : (100 : Int) < (m : Int) := by rw [hm.out]; omega
  have HA := Lib.hid awake_any
  clear hv hm hl
  go_enter Try.func6, Try.ntmps6
  go_wp2_with (first
    | (go_at_call 7; refine (HA.out w).mono ?_; rintro e w1 ⟨rfl, hb⟩; have HB := Lib.hid hb; clear hb)
    | (go_at_call 7; refine (HA.out w1).mono ?_; rintro e w2 ⟨rfl, hb⟩; have HB2 := Lib.hid (HB.out.trans (hb.mono HB.out.size)); clear hb HA))
  go_ret
  exact ⟨rfl, HB2.out⟩
set_option maxRecDepth 100000 in
set_option maxHeartbeats 4000000 in
theorem owns_bad (x y : Int) (v : Value) (l : List FP) (hl : l.length ≤ 100) (w : World) (hv : RowZ 2 cellsF v l w) (hc : chkN x y l ≠ 0) :
    Calls Try.prog 6 #[.int .i64 x, .int .i64 y, v] w fun e w' => e = .returned (.bool true) ∧ Below w.heap.size w w' := by
  have HV := Lib.hid hv
  obtain ⟨p, m, c, rfl, hm⟩ := hv.shape
  have hm2 : (m : Int) ≤ 100 := by rw [hm.out]; omega
  have HA := Lib.hid awake_any
  have HP := Lib.hid fun x (hb : Below w.heap.size w x) => parts_anyZ _ l (by omega) x (HV.out.on cellsF_size hb)
  have HN := Lib.hid fun u z (hu : RowV 2 cellsF u l z) => (New_any x y u l (by omega) z hu).mono fun e w' (h : _ ∧ _) => (show e = .returned (.tuple #[.pointer none, .int .i64 (chkN x y l : Nat)]) ∧ Below z.heap.size z w' from ⟨by
    rcases h.1 with h1 | h1
    · exact absurd h1.1 hc
    · exact h1.2, h.2⟩)
  generalize chkN x y l = E at *
  have e1 : ((E : Int) != 0) = true := by rw [bne_iff_ne]; omega
  clear hv hm hl HV hc
  go_enter Try.func6, Try.ntmps6
  go_wp2_with (first
    | (go_at_call 7; refine (HA.out w).mono ?_; rintro e w1 ⟨rfl, hb⟩; have HB := Lib.hid hb; clear hb HA)
    | (go_at_call 9; refine (HP.out _ HB.out).mono ?_; rintro e w2 ⟨u, rfl, ho, hb⟩; have HO := Lib.hid (ho.view cellsF_size); have HB2 := Lib.hid (HB.out.trans (hb.mono HB.out.size)); clear ho hb HP HB)
    | (go_at_call 8; refine (HN.out _ _ HO.out).mono ?_; rintro e w3 ⟨rfl, hb⟩; have HB3 := Lib.hid (HB2.out.trans (hb.mono HB2.out.size)); clear hb HN HO HB2))
  go_ret
  exact ⟨rfl, HB3.out⟩
set_option maxRecDepth 100000 in
set_option maxHeartbeats 8000000 in
theorem owns_good (x y : Int) (v : Value) (l : List FP) (w : World) (hv : RowZ 2 cellsF v l w) (hc : chkN x y l = 0) :
    Calls Try.prog 6 #[.int .i64 x, .int .i64 y, v] w fun e w' => e = .returned (.bool true) ∧ Below w.heap.size w w' := by
  have hok : OkF x y l := OkF.of (by unfold chkN at hc; split at hc <;> omega)
  obtain ⟨W, rfl⟩ : ∃ W : Nat, x = (W : Int) := ⟨x.toNat, by have := hok.x1; omega⟩
  obtain ⟨H, rfl⟩ : ∃ H : Nat, y = (H : Int) := ⟨y.toNat, by have := hok.y1; omega⟩
  have HOK := Lib.hid hok
  have HV := Lib.hid hv
  obtain ⟨p, m, c, rfl, hm⟩ := hv.shape
  have hl4 := hok.l4
  have hm2 : (m : Int) ≤ 100 := by rw [hm.out]; omega
  have HM := Lib.hid hm.out
  have HA := Lib.hid awake_any
  have HP := Lib.hid fun x (hb : Below w.heap.size w x) => parts_anyZ _ l (by omega) x (HV.out.on cellsF_size hb)
  have HN := Lib.hid fun u z (hu : RowV 2 cellsF u l z) => (New_any W H u l (by omega) z hu).mono fun e w' (h : _ ∧ _) => (show (∃ k, e = .returned (.tuple #[.pointer (some ⟨k, 0, none⟩), .int .i64 0]) ∧ z.heap.size ≤ k ∧ FrP k W H l w') ∧ Below z.heap.size z w' from ⟨by
    rcases h.1 with h1 | h1
    · exact h1.2
    · exact absurd hc h1.1, h.2⟩)
  have u1 := hok.mh
  have u2 := hok.mv
  have hW1 : 1 ≤ W := by have := hok.x1; omega
  have hW2 : W ≤ 16384 := by have := hok.x2; omega
  have hH1 : 1 ≤ H := by have := hok.y1; omega
  have hH2 : H ≤ 16384 := by have := hok.y2; omega
  have a1 : W ≤ uA W l * (8 * mxH (asF l)) := up_ge _ _ (by omega)
  have a2 : (uA W l - 1) * (8 * mxH (asF l)) < W := up_lt _ _ hW1 (by omega)
  have a3 : 1 ≤ uA W l := up_pos _ _ hW1 (by omega)
  have a4 : uA W l ≤ 16384 := Nat.le_trans (up_le _ _ (by omega)) hW2
  have d1 : H ≤ uD H l * (8 * mxV (asF l)) := up_ge _ _ (by omega)
  have d2 : (uD H l - 1) * (8 * mxV (asF l)) < H := up_lt _ _ hH1 (by omega)
  have d3 : 1 ≤ uD H l := up_pos _ _ hH1 (by omega)
  have d4 : uD H l ≤ 16384 := Nat.le_trans (up_le _ _ (by omega)) hH2
  have HUN := Lib.hid fun k z (hf : FrP k W H l z) => (show Calls Try.prog 15 #[.pointer (some ⟨k, 0, none⟩)] z fun e w' => e = .returned (.tuple #[.int .i64 (uA W l : Nat), .int .i64 (uD H l : Nat)]) ∧ Below z.heap.size z w' from by obtain ⟨p, g, h1, _, _⟩ := hf; exact Units_any k _ _ _ _ p g z h1)
  have HUT := Lib.hid fun k z (hf : FrP k W H l z) => (show Calls Try.prog 16 #[.pointer (some ⟨k, 0, none⟩)] z fun e w' => e = .returned (.tuple #[.int .i64 (8 * mxH (asF l) : Nat), .int .i64 (8 * mxV (asF l) : Nat)]) ∧ Below z.heap.size z w' from by obtain ⟨p, g, h1, _, _⟩ := hf; exact Unit_any k _ _ _ _ u1.2 u2.2 p g z h1)
  have HGR := Lib.hid fun k (z : Int) x (hf : FrP k W H l x) => (show Calls Try.prog 11 #[.pointer (some ⟨k, 0, none⟩), .int .i64 z] x fun e w' => e = .returned (.tuple #[.agg (cellsG (gridAt (grids W H l) z)), .bool (decide (0 ≤ z) && decide (z < (l.length : Int)))]) ∧ Below x.heap.size x w' from by
    obtain ⟨p, g, h1, h2, h3⟩ := hf
    have := Grid_any k _ _ _ _ p g (asF l) (grids W H l) (by rw [grids_len]; exact hl4) (by rw [grids_len, asF_len]) z x h1 h2 h3
    rw [grids_len] at this
    exact this)
  have HGV : Hid (∀ i (hi : i < l.length), ∃ p q : Nat, 1 ≤ p ∧ p ≤ 4 ∧ 1 ≤ q ∧ q ≤ 4 ∧ ∃ oc od, gridAt (grids W H l) (i : Int) = (uA W l * p, uD H l * q, oc, od) ∧ 1 ≤ oc ∧ 1 ≤ od ∧ oc ≤ uA W l * p ∧ od ≤ uD H l * q ∧ (uA W l - 1) * p < oc ∧ (uD H l - 1) * q < od) := by
    intro i hi
    have hi2 : i < (asF l).length := by rw [asF_len]; exact hi
    have h1 := asF_ok hok.ok _ (List.getElem_mem hi2)
    refine ⟨(asF l)[i].1.toNat, (asF l)[i].2.toNat, by omega, by omega, by omega, by omega, _, _, ?_, own_pos W _ _ hW1 u1.1 (by omega), own_pos H _ _ hH1 u2.1 (by omega), own_le W _ _ u1.1, own_le H _ _ u2.1, own_gt W _ _ hW1 u1.1 (by omega), own_gt H _ _ hH1 u2.1 (by omega)⟩
    unfold gridAt
    rw [dif_pos ⟨by omega, by rw [grids_len]; exact hi⟩]
    have hg : i < (grids W H l).length := by rw [grids_len]; exact hi
    show (grids W H l)[i]'hg = gridF W H (uA W l) (uD H l) (mxH (asF l)) (mxV (asF l)) ((asF l)[i]'hi2)
    exact List.getElem_map ..
  have ux32 : 8 * mxH (asF l) ≤ 32 := by omega
  have uy32 : 8 * mxV (asF l) ≤ 32 := by omega
  generalize uA W l = a at *
  generalize uD H l = d at *
  generalize 8 * mxH (asF l) = ux at *
  generalize 8 * mxV (asF l) = uy at *
  have p1 : a * ux ≤ 16384 * 32 := Nat.mul_le_mul a4 ux32
  have p2 : (a - 1) * ux ≤ 16384 * 32 := Nat.mul_le_mul (by omega) ux32
  have p3 : d * uy ≤ 16384 * 32 := Nat.mul_le_mul d4 uy32
  have p4 : (d - 1) * uy ≤ 16384 * 32 := Nat.mul_le_mul (by omega) uy32
  have m1 : (a : Int) * (ux : Int) = ((a * ux : Nat) : Int) := by rw [Int.natCast_mul]
  have m2 : ((a - 1 : Nat) : Int) * (ux : Int) = (((a - 1) * ux : Nat) : Int) := by rw [Int.natCast_mul]
  have m3 : (d : Int) * (uy : Int) = ((d * uy : Nat) : Int) := by rw [Int.natCast_mul]
  have m4 : ((d - 1 : Nat) : Int) * (uy : Int) = (((d - 1) * uy : Nat) : Int) := by rw [Int.natCast_mul]
  generalize a * ux = P1 at *
  generalize (a - 1) * ux = P2 at *
  generalize d * uy = P3 at *
  generalize (d - 1) * uy = P4 at *
  have HV1 : Hid (wrap64 ((a : Int) * (ux : Int)) = (P1 : Int)) := by unfold Hid; rw [m1]; exact wrap64_small _ (by omega) (by omega)
  have HV2 : Hid (wrap64 (((a - 1 : Nat) : Int) * (ux : Int)) = (P2 : Int)) := by unfold Hid; rw [m2]; exact wrap64_small _ (by omega) (by omega)
  have HV3 : Hid (wrap64 ((d : Int) * (uy : Int)) = (P3 : Int)) := by unfold Hid; rw [m3]; exact wrap64_small _ (by omega) (by omega)
  have HV4 : Hid (wrap64 (((d - 1 : Nat) : Int) * (uy : Int)) = (P4 : Int)) := by unfold Hid; rw [m4]; exact wrap64_small _ (by omega) (by omega)
  have HS1 : Hid (wrap64 ((a : Int) - 1) = ((a - 1 : Nat) : Int)) := by unfold Hid; rw [show (a : Int) - 1 = ((a - 1 : Nat) : Int) by omega]; exact wrap64_small _ (by omega) (by omega)
  have HS2 : Hid (wrap64 ((d : Int) - 1) = ((d - 1 : Nat) : Int)) := by unfold Hid; rw [show (d : Int) - 1 = ((d - 1 : Nat) : Int) by omega]; exact wrap64_small _ (by omega) (by omega)
  generalize a - 1 = am at HS1 HV2
  generalize d - 1 = dm at HS2 HV4
  have n1 : decide ((P1 : Int) < (W : Int)) = false := decide_eq_false (by omega)
  have k1 : decide (P1 < W) = false := decide_eq_false (by omega)
  have n2 : decide ((W : Int) ≤ (P2 : Int)) = false := decide_eq_false (by omega)
  have k2 : decide (W ≤ P2) = false := decide_eq_false (by omega)
  have n3 : decide ((P3 : Int) < (H : Int)) = false := decide_eq_false (by omega)
  have k3 : decide (P3 < H) = false := decide_eq_false (by omega)
  have n4 : decide ((H : Int) ≤ (P4 : Int)) = false := decide_eq_false (by omega)
  have k4 : decide (H ≤ P4) = false := decide_eq_false (by omega)
  clear m1 m2 m3 m4 p1 p2 p3 p4 ux32 uy32 a1 a2 d1 d2 u1 u2 hv hm HOK hok hc hl4 hW1 hW2 hH1 hH2 HV
  go_enter Try.func6, Try.ntmps6
  go_wp2_with (first
    | (go_at_call 7; refine (HA.out w).mono ?_; rintro e w1 ⟨rfl, hb⟩; have HB := Lib.hid hb; clear hb HA)
    | (go_at_call 9; refine (HP.out _ HB.out).mono ?_; rintro e w2 ⟨u, rfl, ho, hb⟩; have HO := Lib.hid (ho.view cellsF_size); have HB2 := Lib.hid (HB.out.trans (hb.mono HB.out.size)); clear ho hb HP HB)
    | (go_at_call 8; refine (HN.out _ _ HO.out).mono ?_; rintro e w3 ⟨⟨k, rfl, _, hf⟩, hb⟩; have HF := Lib.hid hf; have HB3 := Lib.hid (HB2.out.trans (hb.mono HB2.out.size)); clear hf hb HN HO HB2)
    | (go_at_call 15; refine (HUN.out _ _ HF.out).mono ?_; rintro e w4 ⟨rfl, hb⟩; have HF4 := Lib.hid (HF.out.on hb); have HB4 := Lib.hid (HB3.out.trans (hb.mono HB3.out.size)); clear hb HUN HF HB3)
    | (go_at_call 16; refine (HUT.out _ _ HF4.out).mono ?_; rintro e w5 ⟨rfl, hb⟩; have HF5 := Lib.hid (HF4.out.on hb); have HB5 := Lib.hid (HB4.out.trans (hb.mono HB4.out.size)); clear hb HUT HF4 HB4)
    | refine wpList_arith (by rfl) .sub _ _ _ rfl _ _ _ rfl rfl (bin_sub _ _ _ HS1.out) (guard_sub _ _ _ _) ?_
    | refine wpList_arith (by rfl) .sub _ _ _ rfl _ _ _ rfl rfl (bin_sub _ _ _ HS2.out) (guard_sub _ _ _ _) ?_
    | refine wpList_arith (by rfl) .mul _ _ _ rfl _ _ _ rfl rfl (bin_mul _ _ _ HV1.out) (guard_mul _ _ _ _) ?_
    | refine wpList_arith (by rfl) .mul _ _ _ rfl _ _ _ rfl rfl (bin_mul _ _ _ HV2.out) (guard_mul _ _ _ _) ?_
    | refine wpList_arith (by rfl) .mul _ _ _ rfl _ _ _ rfl rfl (bin_mul _ _ _ HV3.out) (guard_mul _ _ _ _) ?_
    | refine wpList_arith (by rfl) .mul _ _ _ rfl _ _ _ rfl rfl (bin_mul _ _ _ HV4.out) (guard_mul _ _ _ _) ?_)
  go_loopw [13] (fun i wr => ∃ j : Nat, i = .int .i64 j ∧ j ≤ m ∧ FrP k W H l wr ∧ Below w.heap.size w wr) (fun i _ => m - (intOf i).toNat)
  case atStart => exact ⟨0, rfl, Nat.zero_le _, HF5.out, HB5.out⟩
  case round =>
    obtain ⟨j, rfl, hj, hF, hb⟩ := hrel
    have HF6 := Lib.hid hF
    have HB6 := Lib.hid hb
    clear hF hb n1 n2 n3 n4 k1 k2 k3 k4 HV1 HV2 HV3 HV4 HS1 HS2
    by_cases hlt : j < m
    · obtain ⟨p, q, p1, p4, q1, q4, oc, od, hg, o1, o2, o3, o4, o5, o6⟩ := HGV.out j (by rw [← HM.out]; exact hlt)
      have hcall := HGR.out k (j : Int) wr HF6.out
      rw [hg, show (decide ((0 : Int) ≤ (j : Int)) && decide ((j : Int) < (l.length : Int))) = true by rw [← HM.out]; simp; exact hlt] at hcall
      have HC := Lib.hid hcall
      have e1 : a * p ≤ 16384 * 4 := Nat.mul_le_mul a4 p4
      have e2 : d * q ≤ 16384 * 4 := Nat.mul_le_mul d4 q4
      have g1 := Lib.hid (grid_div a p a3)
      have g2 := Lib.hid (grid_div d q d3)
      have k1 : (a - 1) * p = a * p - p := by rw [Nat.sub_mul, Nat.one_mul]
      have k2 : (d - 1) * q = d * q - q := by rw [Nat.sub_mul, Nat.one_mul]
      rw [k1] at o5
      rw [k2] at o6
      have x1 : p ≤ a * p := Nat.le_mul_of_pos_left p a3
      have x2 : q ≤ d * q := Nat.le_mul_of_pos_left q d3
      clear k1 k2 hcall hg
      generalize a * p = C at *
      generalize d * q = R at *
      obtain ⟨Cp, hCp⟩ : ∃ Cp : Nat, Cp = C - p := ⟨_, rfl⟩
      obtain ⟨Rq, hRq⟩ : ∃ Rq : Nat, Rq = R - q := ⟨_, rfl⟩
      have na : (a : Int) ≠ 0 := by omega
      have nd : (d : Int) ≠ 0 := by omega
      have y1 : decide ((oc : Int) < 1) = false := decide_eq_false (by omega)
      have y2 : decide ((od : Int) < 1) = false := decide_eq_false (by omega)
      have y3 : decide ((C : Int) < (oc : Int)) = false := decide_eq_false (by omega)
      have y4 : decide ((R : Int) < (od : Int)) = false := decide_eq_false (by omega)
      have y3' : decide (C < oc) = false := decide_eq_false (by omega)
      have y4' : decide (R < od) = false := decide_eq_false (by omega)
      have y5 : decide ((oc : Int) ≤ (Cp : Int)) = false := decide_eq_false (by omega)
      have y6 : decide ((od : Int) ≤ (Rq : Int)) = false := decide_eq_false (by omega)
      have y5' : decide (oc ≤ Cp) = false := decide_eq_false (by omega)
      have y6' : decide (od ≤ Rq) = false := decide_eq_false (by omega)
      have hp64 := Lib.hid (wrap64_small (p : Int) (by omega) (by omega))
      have hq64 := Lib.hid (wrap64_small (q : Int) (by omega) (by omega))
      have c1 : (C : Int) - (p : Int) = (Cp : Int) := by omega
      have c2 : (R : Int) - (q : Int) = (Rq : Int) := by omega
      have c3 := Lib.hid (wrap64_small (Cp : Int) (by omega) (by omega))
      have c4 := Lib.hid (wrap64_small (Rq : Int) (by omega) (by omega))
      have S1 := Lib.hid (bin_sub (C : Int) (p : Int) (Cp : Int) ((congrArg wrap64 c1).trans c3.out))
      have S2 := Lib.hid (bin_sub (R : Int) (q : Int) (Rq : Int) ((congrArg wrap64 c2).trans c4.out))
      clear c1 c2 c3 c4 hCp hRq x1 x2 o1 o2 o3 o4 o5 o6 p1 p4 q1 q4 e1 e2
      have R1 := Lib.hid (bin_rem (C : Int) (a : Int) 0 na (by rw [show (C : Int).tmod (a : Int) = ((C % a : Nat) : Int) from rfl, g1.out.2]; rfl))
      have R2 := Lib.hid (bin_rem (R : Int) (d : Int) 0 nd (by rw [show (R : Int).tmod (d : Int) = ((R % d : Nat) : Int) from rfl, g2.out.2]; rfl))
      have T1 := Lib.hid (bin_quo (C : Int) (a : Int) (p : Int) na (by rw [show (C : Int).tdiv (a : Int) = ((C / a : Nat) : Int) from rfl, g1.out.1]; exact hp64.out))
      have T2 := Lib.hid (bin_quo (R : Int) (d : Int) (q : Int) nd (by rw [show (R : Int).tdiv (d : Int) = ((R / d : Nat) : Int) from rfl, g2.out.1]; exact hq64.out))
      clear g1 g2 hp64 hq64
      go_wp2_with (first
        | (go_at_call 11; refine HC.out.mono ?_; rintro e w6 ⟨rfl, hb⟩; have HF7 := Lib.hid (HF6.out.on hb); have HB7 := Lib.hid (HB6.out.trans (hb.mono HB6.out.size)); clear hb HC HF6 HB6)
        | (refine wpList_freshE rfl 34 _ _ rfl w6 _ rfl (cellsG (C, R, oc, od)) rfl rfl (size34G _) rfl (cellsG_one _) ?_; intro z hz hbz; have HF8 := Lib.hid (HF7.out.on hbz); have HB8 := Lib.hid (HB7.out.trans (hbz.mono HB7.out.size)); have z0 : z.cell? ⟨w6.heap.size, 0, none⟩ = some (.int .i64 ((C : Nat) : Int)) := Lib.cell_of_heap hz 0; have z1 : z.cell? ⟨w6.heap.size, 1, none⟩ = some (.int .i64 ((R : Nat) : Int)) := Lib.cell_of_heap hz 1; have z2 : z.cell? ⟨w6.heap.size, 2, none⟩ = some (.int .i64 ((oc : Nat) : Int)) := Lib.cell_of_heap hz 2; have z3 : z.cell? ⟨w6.heap.size, 3, none⟩ = some (.int .i64 ((od : Nat) : Int)) := Lib.cell_of_heap hz 3; clear hz hbz HF7 HB7))
      refine wp_region_quiet_lit (by kernel_rfl) (by kernel_rfl) ?_
      repeat (first
        | (refine wpQuiet_arith (by rfl) .rem _ _ _ rfl _ _ _ rfl rfl R1.out (guard_rem _ _ _ _) ⟨_, 1, rfl⟩ _ rfl ?_; intro K hK; go_big_quiet_op; go_big_quiet_on)
        | (refine wpQuiet_arith (by rfl) .rem _ _ _ rfl _ _ _ rfl rfl R2.out (guard_rem _ _ _ _) ⟨_, 1, rfl⟩ _ rfl ?_; intro K hK; go_big_quiet_op; go_big_quiet_on)
        | (refine wpQuiet_arith (by rfl) .quo _ _ _ rfl _ _ _ rfl rfl T1.out (guard_quo _ _ _ _) ⟨_, 1, rfl⟩ _ rfl ?_; intro K hK; go_big_quiet_op; go_big_quiet_on)
        | (refine wpQuiet_arith (by rfl) .quo _ _ _ rfl _ _ _ rfl rfl T2.out (guard_quo _ _ _ _) ⟨_, 1, rfl⟩ _ rfl ?_; intro K hK; go_big_quiet_op; go_big_quiet_on)
        | (refine wpQuiet_arith (by rfl) .sub _ _ _ rfl _ _ _ rfl rfl S1.out (guard_sub _ _ _ _) ⟨_, 1, rfl⟩ _ rfl ?_; intro K hK; go_big_quiet_op; go_big_quiet_on)
        | (refine wpQuiet_arith (by rfl) .sub _ _ _ rfl _ _ _ rfl rfl S2.out (guard_sub _ _ _ _) ⟨_, 1, rfl⟩ _ rfl ?_; intro K hK; go_big_quiet_op; go_big_quiet_on)
        | go_big_quiet_step (fail))
      refine wpQuiet_nil ?_
      intro _ hw'
      obtain ⟨nq, hw''⟩ := hw'
      subst hw''
      have HF9 := Lib.hid (HF8.out.on (below_drewN _ _ nq))
      have HB9 := Lib.hid (HB8.out.trans (below_drewN _ _ nq))
      go_wp2
      go_roundw
      case rel => exact ⟨j + 1, by go_num, by omega, HF9.out, HB9.out⟩
      case measure => simp [intOf]; omega
    · go_wp2
      go_ret
      exact ⟨rfl, HB6.out⟩
theorem FrameOwns_any (x y : Int) (v : Value) (l : List FP) (w : World) (hv : RowZ 2 cellsF v l w) :
    Calls Try.prog 6 #[.int .i64 x, .int .i64 y, v] w fun e w' => e = .returned (.bool true) ∧ Below w.heap.size w w' := by
  by_cases hl : 100 < l.length
  · exact owns_long x y v l hl w hv
  · by_cases hc : chkN x y l = 0
    · exact owns_good x y v l w hv hc
    · exact owns_bad x y v l (by omega) w hv hc
end Go.Proofs.Ytpnkjcahhpbpfaa
