/- Walk of package frame: lay. -/
import Derived.Test.YtpnkjcahhpbpfaaFLaw0
import Derived.Test.YtpnkjcahhpbpfaaMix
namespace Go.Proofs.Ytpnkjcahhpbpfaa
open Go.RowKit

theorem cell_below {w w' : World} {a : Addr} {v : Value} (h : w.cell? a = some v) (hb : Below w.heap.size w w') : w'.cell? a = some v := by
  have hl := World.block_lt_of_cell? w a h
  unfold World.cell? at h ⊢
  rw [hb.block a.block hl]
  exact h
theorem put_none (a : Act) (v : Value) : a.put none v = a := rfl
theorem f32_name : (Try.f32.name == "runtime.NumGoroutine") = false := by kernel_rfl
theorem f32_body : Try.f32.body.isNone = false := by kernel_rfl
/-- The greatest factor. -/
def mxH (l : List FP) : Nat := (l.map fun x => x.1.toNat).foldl max 0
def mxV (l : List FP) : Nat := (l.map fun x => x.2.toNat).foldl max 0
theorem mxH_take {l : List FP} {j : Nat} (h : j < l.length) : mxH (l.take (j + 1)) = max (mxH (l.take j)) l[j].1.toNat := by
  unfold mxH
  rw [List.take_succ_eq_append_getElem h, List.map_append, List.foldl_append]
  rfl
theorem mxV_take {l : List FP} {j : Nat} (h : j < l.length) : mxV (l.take (j + 1)) = max (mxV (l.take j)) l[j].2.toNat := by
  unfold mxV
  rw [List.take_succ_eq_append_getElem h, List.map_append, List.foldl_append]
  rfl
theorem mxH_le {l : List FP} (h : okF l) : ∀ j, j ≤ l.length → mxH (l.take j) ≤ 4
  | 0, _ => by simp [mxH]
  | j + 1, hj => by
    have := mxH_le h j (by omega)
    have h1 := h _ (List.getElem_mem (show j < l.length by omega))
    rw [mxH_take (by omega)]
    omega
theorem mxV_le {l : List FP} (h : okF l) : ∀ j, j ≤ l.length → mxV (l.take j) ≤ 4
  | 0, _ => by simp [mxV]
  | j + 1, hj => by
    have := mxV_le h j (by omega)
    have h1 := h _ (List.getElem_mem (show j < l.length by omega))
    rw [mxV_take (by omega)]
    omega
/-- A component's grid. -/
def gridF (W H a d mh mv : Nat) (x : FP) : GT := (a * x.1.toNat, d * x.2.toNat, up (up (W * x.1.toNat) mh) 8, up (up (H * x.2.toNat) mv) 8)
theorem mxH_pos {l : List FP} (h : okF l) (h0 : 0 < l.length) : 1 ≤ mxH l := by
  have h1 := h _ (List.getElem_mem (show l.length - 1 < l.length by omega))
  have h2 := mxH_take (l := l) (j := l.length - 1) (by omega)
  rw [show l.length - 1 + 1 = l.length by omega, List.take_length] at h2
  omega
theorem mxV_pos {l : List FP} (h : okF l) (h0 : 0 < l.length) : 1 ≤ mxV l := by
  have h1 := h _ (List.getElem_mem (show l.length - 1 < l.length by omega))
  have h2 := mxV_take (l := l) (j := l.length - 1) (by omega)
  rw [show l.length - 1 + 1 = l.length by omega, List.take_length] at h2
  omega
theorem up_le (n b : Nat) (hb : 1 ≤ b) : up n b ≤ n := by
  unfold up
  by_cases h : n = 0
  · subst h
    rw [Nat.zero_add, Nat.div_eq_of_lt (by omega)]
    exact Nat.le_refl _
  · have : (n + b - 1) / b ≤ n := by
      apply Nat.div_le_of_le_mul
      have h1 : n * 1 ≤ n * b := Nat.mul_le_mul_left n hb
      have h2 : b * n = (b - 1) * n + n := by
        conv => lhs; rw [show b = (b - 1) + 1 by omega]
        rw [Nat.add_mul, Nat.one_mul]
      have h3 : (b - 1) * 1 ≤ (b - 1) * n := Nat.mul_le_mul_left _ (by omega)
      omega
    exact this
set_option maxRecDepth 100000 in
set_option maxHeartbeats 8000000 in
theorem lay_any (W H : Nat) (hW : W ≤ 16384) (hH : H ≤ 16384) (v : Value) (l : List FP) (hl : l.length ≤ 4) (h0 : 0 < l.length) (hok : okF l) (w : World) (B : Nat) (hB : B ≤ w.heap.size) (hv : OwnR 62 2 cellsF B v l w) :
    Calls Try.prog 21 #[.int .i64 W, .int .i64 H, v] w fun e w' => ∃ k g, B ≤ k ∧ e = .returned (.pointer (some ⟨k, 0, none⟩)) ∧ Fr k (up W (8 * mxH l)) (up H (8 * mxV l)) (mxH l) (mxV l) v g w' ∧ OwnR 62 2 cellsF B v l w' ∧ OwnR 34 4 cellsG B g (l.map (gridF W H (up W (8 * mxH l)) (up H (8 * mxV l)) (mxH l) (mxV l))) w' ∧ Below w.heap.size w w' := by
  obtain ⟨p, m, c, rfl, hm⟩ := hv.shape
  have HV := Lib.hid hv
  have HM := Lib.hid hm.out
  have HOK := Lib.hid hok
  have hm2 : m ≤ 4 := by rw [hm.out]; exact hl
  have HX : Hid (Fr w.heap.size 0 0 0 0 (.slice p m c) (.slice none 0 0) (w.alloc (.cells #[.int .i64 0, .int .i64 0, .int .i64 0, .int .i64 0, .slice p m c, .slice none 0 0] 69))) := ⟨heap_alloc_new _ _⟩
  clear hv hm hl hok
  go_enter Try.func21, Try.ntmps21
  go_wp2
  go_loopw [17] (fun i wr => ∃ j : Nat, i = .int .i64 j ∧ j ≤ m ∧ Fr w.heap.size 0 0 (mxH (l.take j)) (mxV (l.take j)) (.slice p m c) (.slice none 0 0) wr ∧ Below w.heap.size w wr) (fun i _ => m - (intOf i).toNat)
  case atStart => exact ⟨0, rfl, Nat.zero_le _, HX.out, below_new _ _⟩
  case round =>
    obtain ⟨j, rfl, hj, hF, hb⟩ := hrel
    have HF := Lib.hid hF
    have HB := Lib.hid hb
    by_cases hlt : j < m
    · have hjl : j < l.length := by rw [← HM.out]; exact hlt
      obtain ⟨b, o, c', hvv, hbl, hc⟩ := ((HV.out.on HB.out).view cellsF_size).lies (by omega)
      simp only [Value.slice.injEq] at hvv
      obtain ⟨rfl, hy1, hy2⟩ := hvv
      clear hy1 hy2
      obtain ⟨x0, x1⟩ := fac_cells hc hjl
      have h1 := HOK.out _ (List.getElem_mem hjl)
      have HS1 := Lib.hid (mxH_take hjl)
      have HS2 := Lib.hid (mxV_take hjl)
      have b1 := mxH_le HOK.out j (by omega)
      have b2 := mxV_le HOK.out j (by omega)
      obtain ⟨a0, ha0⟩ : ∃ a0 : Nat, l[j].1 = (a0 : Int) := ⟨l[j].1.toNat, by omega⟩
      obtain ⟨a1, ha1⟩ : ∃ a1 : Nat, l[j].2 = (a1 : Int) := ⟨l[j].2.toNat, by omega⟩
      have hq0 : l[j].1.toNat = a0 := by rw [ha0]; rfl
      have hq1 : l[j].2.toNat = a1 := by rw [ha1]; rfl
      rw [hq0] at HS1
      rw [hq1] at HS2
      rw [ha0] at x0
      rw [ha1] at x1
      rw [ha0, ha1] at h1
      have ha4 : a0 ≤ 4 := by omega
      have ha5 : a1 ≤ 4 := by omega
      generalize mxH (l.take j) = S at *
      generalize mxV (l.take j) = T at *
      clear hc hbl hjl ha0 ha1 hq0 hq1 h1 hb hF
      go_wp2_with (refine wpList_freshE rfl 62 _ _ rfl wr _ rfl (cellsF ((a0 : Nat), (a1 : Nat))) rfl rfl (size62F _) rfl (cellsF_one _) ?_; intro wp hp hbp; have HPB := Lib.hid (HB.out.trans (hbp.mono HB.out.size)); have HLT := Lib.hid (show w.heap.size < wr.heap.size from (Array.getElem?_eq_some_iff.1 HF.out.box).1); have hfp := HF.out.on hbp; have HFP := Lib.hid hfp; have z0 : wp.cell? ⟨wr.heap.size, 0, none⟩ = some (.int .i64 (a0 : Nat)) := Lib.cell_of_heap hp 0; have z1 : wp.cell? ⟨wr.heap.size, 1, none⟩ = some (.int .i64 (a1 : Nat)) := Lib.cell_of_heap hp 1; have y2 := hfp.c2; have y3 := hfp.c3; have f2 : wp.frozen? ⟨w.heap.size, 2, none⟩ = false := Lib.frozen_of_heap hfp.box 2; have f3 : wp.frozen? ⟨w.heap.size, 3, none⟩ = false := Lib.frozen_of_heap hfp.box 3; clear hp hbp x0 x1 hfp HF)
      have HMX : Hid ((if S < a0 then ((a0 : Nat) : Int) else ((S : Nat) : Int)) = ((max S a0 : Nat) : Int)) := by
        unfold Hid
        split <;> omega
      have HMY : Hid ((if T < a1 then ((a1 : Nat) : Int) else ((T : Nat) : Int)) = ((max T a1 : Nat) : Int)) := by
        unfold Hid
        split <;> omega
      go_region
      all_goals
        rw [HMX.out]
        have hf1 : Fr w.heap.size 0 0 (max S a0) T (.slice (some ⟨b, o, none⟩) m c) (.slice none 0 0) ((wp.setCell ⟨w.heap.size, 2, none⟩ (.int .i64 ((max S a0 : Nat) : Int))).drew) := ⟨by
          show (wp.setCell _ _).heap[_]? = _
          rw [heap_setCell_same _ _ _ _ _ _ HFP.out.box]
          rfl⟩
        have hb1 : Below w.heap.size w ((wp.setCell ⟨w.heap.size, 2, none⟩ (.int .i64 ((max S a0 : Nat) : Int))).drew) := (HPB.out.setCell (p := ⟨_, _, none⟩) (Nat.le_refl _) _).drew
        have z1b : ((wp.setCell ⟨w.heap.size, 2, none⟩ (.int .i64 ((max S a0 : Nat) : Int))).drew).cell? ⟨wr.heap.size, 1, none⟩ = some (.int .i64 (a1 : Nat)) := (World.cell?_setCell_other _ _ _ _ (by intro e; have := HLT.out; injection e with e1; omega)).trans z1
        generalize (wp.setCell ⟨w.heap.size, 2, none⟩ (.int .i64 ((max S a0 : Nat) : Int))).drew = W5 at *
        have HF5 := Lib.hid hf1
        have y3b := hf1.c3
        have f3b : W5.frozen? ⟨w.heap.size, 3, none⟩ = false := Lib.frozen_of_heap hf1.box 3
        have HB5 := Lib.hid hb1
        clear hf1 hb1 y2 y3 f2 f3 z0 z1
        go_wp2
        go_region
        all_goals
          rw [HMY.out]
          have hf2 : Fr w.heap.size 0 0 (max S a0) (max T a1) (.slice (some ⟨b, o, none⟩) m c) (.slice none 0 0) ((W5.setCell ⟨w.heap.size, 3, none⟩ (.int .i64 ((max T a1 : Nat) : Int))).drew) := ⟨by
            show (W5.setCell _ _).heap[_]? = _
            rw [heap_setCell_same _ _ _ _ _ _ HF5.out.box]
            rfl⟩
          have hb2 : Below w.heap.size w ((W5.setCell ⟨w.heap.size, 3, none⟩ (.int .i64 ((max T a1 : Nat) : Int))).drew) := (HB5.out.setCell (p := ⟨_, _, none⟩) (Nat.le_refl _) _).drew
          generalize (W5.setCell ⟨w.heap.size, 3, none⟩ (.int .i64 ((max T a1 : Nat) : Int))).drew = W6 at *
          have HF6 := Lib.hid hf2
          have HB6 := Lib.hid hb2
          clear hf2 hb2 y3b f3b z1b
          go_wp2
          go_roundw
          case rel => exact ⟨j + 1, by go_num, by omega, by rw [HS1.out, HS2.out]; exact HF6.out, HB6.out⟩
          case measure => simp [intOf]; omega
    · obtain rfl : j = m := by omega
      have hFL := HF.out
      have etk : l.take j = l := by rw [HM.out, List.take_length]
      rw [etk] at hFL
      have HTK := Lib.hid fun _ : Unit => etk
      clear etk
      have k1 := mxH_pos HOK.out h0
      have k2 := mxV_pos HOK.out h0
      have k3 := mxH_le HOK.out l.length (Nat.le_refl _)
      have k4 := mxV_le HOK.out l.length (Nat.le_refl _)
      rw [List.take_length] at k3 k4
      have u1 := up_le W (8 * mxH l) (by omega)
      have u2 := up_le H (8 * mxV l) (by omega)
      have HT1 := Lib.hid fun (z : Int) (hz : z = ((8 * mxH l : Nat) : Int)) x => (show Calls Try.prog 32 #[.int .i64 W, .int .i64 z] x fun e w' => e = .returned (.int .i64 (up W (8 * mxH l) : Nat)) ∧ x = w' from by rw [hz]; exact through_any W (8 * mxH l) (by omega) (by omega) (by omega) x)
      have HT2 := Lib.hid fun (z : Int) (hz : z = ((8 * mxV l : Nat) : Int)) x => (show Calls Try.prog 32 #[.int .i64 H, .int .i64 z] x fun e w' => e = .returned (.int .i64 (up H (8 * mxV l) : Nat)) ∧ x = w' from by rw [hz]; exact through_any H (8 * mxV l) (by omega) (by omega) (by omega) x)
      generalize hga : up W (8 * mxH l) = a at *
      generalize hgd : up H (8 * mxV l) = d at *
      generalize hgh : mxH l = mh at *
      generalize hgv : mxV l = mv at *
      have HGA := Lib.hid fun _ : Unit => hga
      have HGD := Lib.hid fun _ : Unit => hgd
      have HGH := Lib.hid fun _ : Unit => hgh
      have HGV := Lib.hid fun _ : Unit => hgv
      clear hga hgd hgh hgv
      have y2 := hFL.c2
      have y3 := hFL.c3
      have y0 := hFL.c0
      have y1 := hFL.c1
      have f0 : wr.frozen? ⟨w.heap.size, 0, none⟩ = false := Lib.frozen_of_heap hFL.box 0
      have f1 : wr.frozen? ⟨w.heap.size, 1, none⟩ = false := Lib.frozen_of_heap hFL.box 1
      have HFL := Lib.hid hFL
      clear hF hb hFL
      go_wp2_with (first
        | (go_at_call 32; refine (HT1.out _ (by omega) _).mono ?_; rintro e w2 ⟨rfl, rfl⟩; clear HT1)
        | (go_at_call 32; refine (HT2.out _ (by omega) _).mono ?_; rintro e w2 ⟨rfl, rfl⟩; clear HT2))
      have hf7 : Fr w.heap.size a d mh mv (.slice p j c) (.slice none 0 0) ((wr.setCell ⟨w.heap.size, 0, none⟩ (.int .i64 ((a : Nat) : Int))).setCell ⟨w.heap.size, 1, none⟩ (.int .i64 ((d : Nat) : Int))) := ⟨by
        rw [heap_setCell_same _ _ _ _ _ _ (heap_setCell_same _ _ _ _ _ _ HFL.out.box)]
        rfl⟩
      have hb7 : Below w.heap.size w ((wr.setCell ⟨w.heap.size, 0, none⟩ (.int .i64 ((a : Nat) : Int))).setCell ⟨w.heap.size, 1, none⟩ (.int .i64 ((d : Nat) : Int))) := (HB.out.setCell (p := ⟨_, _, none⟩) (Nat.le_refl _) _).setCell (p := ⟨_, _, none⟩) (Nat.le_refl _) _
      generalize (wr.setCell ⟨w.heap.size, 0, none⟩ (.int .i64 ((a : Nat) : Int))).setCell ⟨w.heap.size, 1, none⟩ (.int .i64 ((d : Nat) : Int)) = W7 at *
      have HF7 := Lib.hid hf7
      have HB7 := Lib.hid hb7
      clear hf7 hb7 y0 y1 y2 y3 f0 f1
      go_loopw [70] (fun iv wr => ∃ i : Nat, ∃ g, iv = .int .i64 i ∧ i ≤ j ∧ Fr w.heap.size a d mh mv (.slice p j c) g wr ∧ OwnR 34 4 cellsG w.heap.size g ((l.take i).map (gridF W H a d mh mv)) wr ∧ Below w.heap.size w wr) (fun iv _ => j - (intOf iv).toNat)
      case atStart => exact ⟨0, _, rfl, Nat.zero_le _, HF7.out, OwnR.nil, HB7.out⟩
      case round =>
        obtain ⟨i, g, rfl, hi, hF, hO, hb⟩ := hrel
        have HF8 := Lib.hid hF
        have HO8 := Lib.hid hO
        have HB8 := Lib.hid hb
        obtain ⟨gp, gm, gc, rfl, hgm⟩ := hO.shape
        clear hF hO hb hgm
        by_cases hlt2 : i < j
        · have hil : i < l.length := by rw [← HM.out]; exact hlt2
          obtain ⟨b, o, c', hvv, hbl, hc⟩ := ((HV.out.on HB8.out).view cellsF_size).lies (by omega)
          simp only [Value.slice.injEq] at hvv
          obtain ⟨rfl, hy1, hy2⟩ := hvv
          clear hy1 hy2
          obtain ⟨x0, x1⟩ := fac_cells hc hil
          have h1 := HOK.out _ (List.getElem_mem hil)
          have HS3 : Hid ((l.take (i + 1)).map (gridF W H a d mh mv) = (l.take i).map (gridF W H a d mh mv) ++ [gridF W H a d mh mv l[i]]) := by unfold Hid; rw [List.take_succ_eq_append_getElem hil, List.map_append]; rfl
          have HLN : Hid (((l.take i).map (gridF W H a d mh mv)).length ≤ 1000000) := by unfold Hid; rw [List.length_map, List.length_take]; omega
          obtain ⟨a0, ha0⟩ : ∃ a0 : Nat, l[i].1 = (a0 : Int) := ⟨l[i].1.toNat, by omega⟩
          obtain ⟨a1, ha1⟩ : ∃ a1 : Nat, l[i].2 = (a1 : Int) := ⟨l[i].2.toNat, by omega⟩
          have HG : Hid (gridF W H a d mh mv l[i] = (a * a0, d * a1, up (up (W * a0) mh) 8, up (up (H * a1) mv) 8)) := by unfold Hid gridF; rw [ha0, ha1]; rfl
          rw [HG.out] at HS3
          clear HG
          rw [ha0] at x0
          rw [ha1] at x1
          rw [ha0, ha1] at h1
          have ha4 : a0 ≤ 4 := by omega
          have ha5 : a1 ≤ 4 := by omega
          have pa : a * a0 ≤ 16384 * 4 := Nat.mul_le_mul (by omega) ha4
          have pd : d * a1 ≤ 16384 * 4 := Nat.mul_le_mul (by omega) ha5
          have pw : W * a0 ≤ 16384 * 4 := Nat.mul_le_mul hW ha4
          have ph : H * a1 ≤ 16384 * 4 := Nat.mul_le_mul hH ha5
          have ma : (a : Int) * (a0 : Int) = ((a * a0 : Nat) : Int) := by rw [Int.natCast_mul]
          have md : (d : Int) * (a1 : Int) = ((d * a1 : Nat) : Int) := by rw [Int.natCast_mul]
          have mw : (W : Int) * (a0 : Int) = ((W * a0 : Nat) : Int) := by rw [Int.natCast_mul]
          have mhh : (H : Int) * (a1 : Int) = ((H * a1 : Nat) : Int) := by rw [Int.natCast_mul]
          have HC1 := Lib.hid fun x => through_any (W * a0) mh (by omega) k1 (by omega) x
          have ul1 := up_le (W * a0) mh k1
          have HC2 := Lib.hid fun x => through_any (up (W * a0) mh) 8 (by omega) (by omega) (by omega) x
          have HC3 := Lib.hid fun x => through_any (H * a1) mv (by omega) k2 (by omega) x
          have ul2 := up_le (H * a1) mv k2
          have HC4 := Lib.hid fun x => through_any (up (H * a1) mv) 8 (by omega) (by omega) (by omega) x
          generalize hA : a * a0 = qa at *
          generalize hD : d * a1 = qd at *
          generalize hW0 : W * a0 = qw at *
          generalize hH0 : H * a1 = qh at *
          generalize up qw mh = r1 at *
          generalize up r1 8 = s1 at *
          generalize up qh mv = r2 at *
          generalize up r2 8 = s2 at *
          generalize (l.take i).map (gridF W H a d mh mv) = LL at *
          have va : IntKind.i64.wrap ((a : Int) * (a0 : Int)) = (qa : Int) := (IntWalk.i64_left _).trans (by rw [ma]; exact wrap64_small _ (by omega) (by omega))
          have vd : IntKind.i64.wrap ((d : Int) * (a1 : Int)) = (qd : Int) := (IntWalk.i64_left _).trans (by rw [md]; exact wrap64_small _ (by omega) (by omega))
          have vw : IntKind.i64.wrap ((W : Int) * (a0 : Int)) = (qw : Int) := (IntWalk.i64_left _).trans (by rw [mw]; exact wrap64_small _ (by omega) (by omega))
          have vh : IntKind.i64.wrap ((H : Int) * (a1 : Int)) = (qh : Int) := (IntWalk.i64_left _).trans (by rw [mhh]; exact wrap64_small _ (by omega) (by omega))
          have va' : wrap64 ((a : Int) * (a0 : Int)) = (qa : Int) := by rw [ma]; exact wrap64_small _ (by omega) (by omega)
          have vd' : wrap64 ((d : Int) * (a1 : Int)) = (qd : Int) := by rw [md]; exact wrap64_small _ (by omega) (by omega)
          have vw' : wrap64 ((W : Int) * (a0 : Int)) = (qw : Int) := by rw [mw]; exact wrap64_small _ (by omega) (by omega)
          have vh' : wrap64 ((H : Int) * (a1 : Int)) = (qh : Int) := by rw [mhh]; exact wrap64_small _ (by omega) (by omega)
          clear hc hbl hil ha0 ha1 h1 hA hD hW0 hH0 ma md mw mhh u1 u2 ul1 ul2
          go_wp2_with (refine wpList_freshE rfl 62 _ _ rfl wr _ rfl (cellsF ((a0 : Nat), (a1 : Nat))) rfl rfl (size62F _) rfl (cellsF_one _) ?_; intro wp hp hbp; have HPB := Lib.hid (HB8.out.trans (hbp.mono HB8.out.size)); have hfp := HF8.out.on hbp; have HFP := Lib.hid hfp; have HOP := Lib.hid (HO8.out.on hbp); have z0 : wp.cell? ⟨wr.heap.size, 0, none⟩ = some (.int .i64 (a0 : Nat)) := Lib.cell_of_heap hp 0; have z1 : wp.cell? ⟨wr.heap.size, 1, none⟩ = some (.int .i64 (a1 : Nat)) := Lib.cell_of_heap hp 1; have y0 := hfp.c0; have y1 := hfp.c1; have y2 := hfp.c2; have y3 := hfp.c3; have y5 := hfp.c5; have f5 : wp.frozen? ⟨w.heap.size, 5, none⟩ = false := Lib.frozen_of_heap hfp.box 5; clear hp hbp x0 x1 hfp HF8 HO8)
          have HLT := Lib.hid (show w.heap.size < wp.heap.size from (Array.getElem?_eq_some_iff.1 HFP.out.box).1)
          have y0' : ∀ x : In (Below wp.heap.size wp), x.W.cell? ⟨w.heap.size, 0, none⟩ = some (.int .i64 ((a : Nat) : Int)) := fun x => (HFP.out.on x.h).c0
          have y1' : ∀ x : In (Below wp.heap.size wp), x.W.cell? ⟨w.heap.size, 1, none⟩ = some (.int .i64 ((d : Nat) : Int)) := fun x => (HFP.out.on x.h).c1
          have y2' : ∀ x : In (Below wp.heap.size wp), x.W.cell? ⟨w.heap.size, 2, none⟩ = some (.int .i64 ((mh : Nat) : Int)) := fun x => (HFP.out.on x.h).c2
          have y3' : ∀ x : In (Below wp.heap.size wp), x.W.cell? ⟨w.heap.size, 3, none⟩ = some (.int .i64 ((mv : Nat) : Int)) := fun x => (HFP.out.on x.h).c3
          have y5' : ∀ x : In (Below wp.heap.size wp), x.W.cell? ⟨w.heap.size, 5, none⟩ = some (.slice gp gm gc) := fun x => (HFP.out.on x.h).c5
          have z0' : ∀ x : In (Below wp.heap.size wp), x.W.cell? ⟨wr.heap.size, 0, none⟩ = some (.int .i64 ((a0 : Nat) : Int)) := fun x => cell_below z0 x.h
          have z1' : ∀ x : In (Below wp.heap.size wp), x.W.cell? ⟨wr.heap.size, 1, none⟩ = some (.int .i64 ((a1 : Nat) : Int)) := fun x => cell_below z1 x.h
          have hnb : Nonempty (In (Below wp.heap.size wp)) := ⟨⟨wp, Below.refl _ _⟩⟩
          have HNE : Hid (∃ w, ∃ x : In (Below wp.heap.size wp), w = x.W) := ⟨wp, ⟨wp, Below.refl _ _⟩, rfl⟩
          clear y0 y1 y2 y3 y5 z0 z1
          simp only [put_none]
          refine wp_region_mix (Below wp.heap.size wp) [1, 0, 0, 0, 0, 0, 0, 0, 0, 0, 0, 0, 0, 0, 0, 0, 0, 0, 0, 0, 0, 0, 0, 0, 0, 0, 0, 0, 0, 0, 0, 0, 0, 0, 0, 0, 0, 0, 0, 0, 0, 0, 2, 3, 4, 4, 4] 5 (by kernel_rfl) (by kernel_rfl) (Below.refl _ _).drew ?_
          intro KK hKK
          simp only [qpick, Nat.reduceEqDiff, ↓reduceIte]
          repeat (first
            | (refine wpSt_step rfl (by rfl) ?_; intro K hK; go_big_quiet_op; go_big_quiet_on)
            | (refine wpSt_call 32 #[.tmp 96, .tmp 101] #[3, 3] rfl (by rfl) Try.f32 Try.func32 f32_name f32_body #[.int .i64 qw, .int .i64 mh] (by simp [Act.eval]) (.int .i64 r1) (fun x _ => HC1.out x) HNE.out (some 102) rfl ?_; intro K hK; go_big_quiet_op; go_big_quiet_on)
            | (refine wpSt_call 32 #[.tmp 102, .const (.int .i64 8)] #[3, 3] rfl (by rfl) Try.f32 Try.func32 f32_name f32_body #[.int .i64 r1, .int .i64 8] (by simp [Act.eval]) (.int .i64 s1) (fun x _ => HC2.out x) HNE.out (some 103) rfl ?_; intro K hK; go_big_quiet_op; go_big_quiet_on)
            | (refine wpSt_call 32 #[.tmp 107, .tmp 112] #[3, 3] rfl (by rfl) Try.f32 Try.func32 f32_name f32_body #[.int .i64 qh, .int .i64 mv] (by simp [Act.eval]) (.int .i64 r2) (fun x _ => HC3.out x) HNE.out (some 113) rfl ?_; intro K hK; go_big_quiet_op; go_big_quiet_on)
            | (refine wpSt_call 32 #[.tmp 113, .const (.int .i64 8)] #[3, 3] rfl (by rfl) Try.f32 Try.func32 f32_name f32_body #[.int .i64 r2, .int .i64 8] (by simp [Act.eval]) (.int .i64 s2) (fun x _ => HC4.out x) HNE.out (some 114) rfl ?_; intro K hK; go_big_quiet_op; go_big_quiet_on)
            | refine wpSt_nil ?_)
          refine hKK _ ?_
          refine mix_keeps (k := 42) (fuel := 4) ?_ ?_ ?_
          · kernel_rfl
          · rfl
          refine mOp_list rfl ?_
          refine wpList_bsR _ _ info34 (by decide) (by decide) Try.underlying67 rfl _ rfl (cellsG (qa, qd, s1, s2)) rfl rfl ?_
          refine wpList_nil ⟨rfl, ⟨⟨_, ((Below.refl _ _).drew.alloc (Nat.le_refl _) _)⟩, rfl⟩, ?_⟩
          refine mix_mute (k := 43) (fuel := 3) ?_ ?_ ?_
          · kernel_rfl
          · rfl
          refine mOp_list rfl ?_
          refine wpList_appR cellsG_size cellsG_one _ _ info34 (cellsG_size _) (by decide) (by decide) Try.underlying67 rfl _ _ rfl w.heap.size (.slice gp gm gc) LL ((qa, qd, s1, s2) : GT) rfl wp.drew.heap.size rfl rfl HOP.out HLN.out HPB.out.size ?_
          intro v4 w4 ho hb hk
          refine wpList_nil ⟨rfl, ?_⟩
          refine mix_tail 44 (by kernel_rfl) (by kernel_rfl) ?_
          simp only [List.drop, List.getElem_cons_succ, List.getElem_cons_zero, List.getElem_toArray]
          have HO4 := Lib.hid ho
          have hFx : w4.heap[w.heap.size]? = some (.cells #[.int .i64 (a : Nat), .int .i64 (d : Nat), .int .i64 (mh : Nat), .int .i64 (mv : Nat), .slice (some ⟨b, o, none⟩) j c, .slice gp gm gc] 69 (0, 0)) := hk _ _ HFP.out.box (by simp) (fun _ _ e => by simp only [Obj.cells.injEq] at e; exact absurd e.2.1 (by decide))
          have HFX := Lib.hid hFx
          have HB4 := Lib.hid (HPB.out.drew.trans hb)
          have hf9 : w4.frozen? ⟨w.heap.size, 5, none⟩ = false := Lib.frozen_of_heap hFx 5
          have hc9 : w4.cell? ⟨w.heap.size, 5, none⟩ = some (.slice gp gm gc) := Lib.cell_of_heap hFx 5
          obtain ⟨p4, m4, c4, rfl, _⟩ := ho.shape
          clear ho hb hk hFx y0' y1' y2' y3' y5' z0' z1' HFP HOP HPB hKK KK
          go_wp2
          refine ⟨⟨i + 1, _, by go_num, by omega, ⟨?_⟩, by rw [HS3.out]; exact HO4.out.setCell HFX.out (by decide), HB4.out.setCell (p := ⟨_, _, none⟩) (Nat.le_refl _) _⟩, by simp [intOf]; omega⟩
          show (w4.setCell _ _).heap[_]? = _
          rw [heap_setCell_same _ _ _ _ _ _ HFX.out]
          rfl
        · obtain rfl : i = j := by omega
          have hO2 := HO8.out
          rw [HTK.out ()] at hO2
          have HO9 := Lib.hid hO2
          clear hO2
          go_wp2
          go_ret
          rw [HGH.out (), HGV.out (), HGA.out (), HGD.out ()]
          exact ⟨_, _, hB, rfl, HF8.out, HV.out.on HB8.out, HO9.out.mono hB, HB8.out⟩
end Go.Proofs.Ytpnkjcahhpbpfaa
