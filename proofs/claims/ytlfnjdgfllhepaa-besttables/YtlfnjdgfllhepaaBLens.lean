/- The program's lengths. -/
import Derived.Test.YtlfnjdgfllhepaaBLens0
namespace Go.Proofs.Ytlfnjdgfllhepaa
open Go.RowKit

/-- The groups while they are being laid out. -/
def lay (fi : Nat → Int) (k : Nat) : Nat → Int := fun i => if i < 256 then fi i else if i = 256 then 1 else if i < 257 + k then -1 else 0
theorem lay_step (fi : Nat → Int) (k : Nat) : updI (lay fi k) (257 + k) (-1) = lay fi (k + 1) := by
  funext i
  by_cases e : i = 257 + k
  · subst e
    rw [updI_same]
    unfold lay
    rw [if_neg (by omega), if_neg (by omega), if_pos (by omega)]
  · rw [updI_ne _ _ e]
    unfold lay
    by_cases h1 : i < 256
    · rw [if_pos h1, if_pos h1]
    · rw [if_neg h1, if_neg h1]
      by_cases h2 : i = 256
      · rw [if_pos h2, if_pos h2]
      · rw [if_neg h2, if_neg h2]
        by_cases h3 : i < 257 + k
        · rw [if_pos h3, if_pos (by omega)]
        · rw [if_neg h3, if_neg (by omega)]
/-- What stands in memory while groups are joined. -/
structure LSt (B : Nat) (s : HS) (nx : Nat → Option Nat) (w wr : World) : Prop where
  res : RowN 47 257 (B + 1) (fun _ => 0) wr
  gs : Gs (B + 1 + 1) s.W nx s.L wr
  low : Below B w wr
theorem LSt.on {B : Nat} {s : HS} {nx : Nat → Option Nat} {w wr w' : World} (h : LSt B s nx w wr) (hb : Below wr.heap.size wr w') (hB : B ≤ wr.heap.size) : LSt B s nx w w' :=
  ⟨h.res.on hb, h.gs.on hb, h.low.trans (hb.mono hB)⟩
theorem least_none (k : Nat) (G : Nat → Int) (W : Nat → Nat) (hG : ∀ i, i < 257 → G i = W i) (hb : ∀ i, i < 257 → W i < 1000000000000000) (z : Int) (b : Nat) (hz : ∀ i : Nat, i < 257 → ((i : Int) = z ↔ i = b)) (hR : lst W b 257 = none)
    (w : World) (hw : RowN 61 771 k G w) :
    Calls Try.prog 27 #[.pointer (some ⟨k, 0, none⟩), .int .i64 z] w fun e w' => e = .returned (.int .i64 (-1)) ∧ Below w.heap.size w w' :=
  least_any k G W hG hb z b hz none hR.symm w hw
theorem least_some (k : Nat) (G : Nat → Int) (W : Nat → Nat) (hG : ∀ i, i < 257 → G i = W i) (hb : ∀ i, i < 257 → W i < 1000000000000000) (z : Int) (b : Nat) (hz : ∀ i : Nat, i < 257 → ((i : Int) = z ↔ i = b)) (a : Nat) (hR : lst W b 257 = some a)
    (w : World) (hw : RowN 61 771 k G w) :
    Calls Try.prog 27 #[.pointer (some ⟨k, 0, none⟩), .int .i64 z] w fun e w' => e = .returned (.int .i64 (a : Nat)) ∧ Below w.heap.size w w' :=
  least_any k G W hG hb z b hz (some a) hR.symm w hw
theorem wp_load_part {o : Oper} {a : Act} {w : World} {K : Act → World → Prop} {Q : Exit → Act → World → Prop} (ty : TypeId) (x : Operand) (ho : o.op = .load ty x)
    (g at' n : Nat) (hx : a.eval x = .pointer (some ⟨g, at', none⟩)) (f : Nat → Value) (d : TypeDesc) (hc : ∀ j, j < n → w.cell? ⟨g, at' + j, none⟩ = some (f j))
    (hu : Try.prog.underlying ty = some d) (hd : (match d with | .struct _ | .array _ _ => true | _ => false) = true) (hi : (Try.prog.info? ty).map (·.size) = some n)
    (h : K (a.put o.dst (.agg ((List.range n).map f).toArray)) w) : o.wp Try.prog a w K Q := by
  unfold Oper.wp execOp
  simp only [ho, hx, Instr.loadAt, Instr.sureAddr, Sem.run_bind, Sem.run_pure, Result.andThen_ok, run_loadVar_part w g at' n ty f d hc hu hd hi]
  exact h
/-- least's contract while groups are joined. -/
def LeastC (B : Nat) (s : HS) (nx : Nat → Option Nat) (w : World) (z r : Int) : Prop := ∀ x, LSt B s nx w x → Calls Try.prog 27 #[.pointer (some ⟨B + 1 + 1, 0, none⟩), .int .i64 z] x fun e w' => e = .returned (.int .i64 r) ∧ LSt B s nx w w'
theorem leastC_none {B : Nat} {s : HS} {nx : Nat → Option Nat} {w : World} (hb : ∀ i, i < 257 → s.W i < 1000000000000000) (z : Int) (b : Nat) (hz : ∀ i : Nat, i < 257 → ((i : Int) = z ↔ i = b)) (hR : lst s.W b 257 = none) : LeastC B s nx w z (-1) := fun x hx => by
  refine (least_none (B + 1 + 1) (fun i => if i < 257 then (s.W i : Int) else if i < 514 then oi (nx (i - 257)) else (s.L (i - 514) : Int)) s.W (fun i hi => if_pos hi) hb z b hz hR x hx.gs.row).mono ?_
  rintro e w' ⟨rfl, h⟩
  exact ⟨rfl, hx.on h (by have := hx.gs.lt; omega)⟩
theorem leastC_some {B : Nat} {s : HS} {nx : Nat → Option Nat} {w : World} (hb : ∀ i, i < 257 → s.W i < 1000000000000000) (z : Int) (b : Nat) (hz : ∀ i : Nat, i < 257 → ((i : Int) = z ↔ i = b)) (a : Nat) (hR : lst s.W b 257 = some a) : LeastC B s nx w z a := fun x hx => by
  refine (least_some (B + 1 + 1) (fun i => if i < 257 then (s.W i : Int) else if i < 514 then oi (nx (i - 257)) else (s.L (i - 514) : Int)) s.W (fun i hi => if_pos hi) hb z b hz a hR x hx.gs.row).mono ?_
  rintro e w' ⟨rfl, h⟩
  exact ⟨rfl, hx.on h (by have := hx.gs.lt; omega)⟩
def JoinC (B : Nat) (s s' : HS) (nx n2 : Nat → Option Nat) (w : World) (a b : Nat) : Prop := ∀ x, LSt B s nx w x → Calls Try.prog 28 #[.pointer (some ⟨B + 1 + 1, 0, none⟩), .int .i64 a, .int .i64 b] x fun e w' => e = .returned (.tuple #[]) ∧ LSt B s' n2 w w'
theorem joinC {B : Nat} {F : Nat → Nat} {s : HS} {nx : Nat → Option Nat} {w : World} (hf : Fit F s) (h0 : ∀ x, 257 ≤ x → F x = 0) (hs : off F 257 < 1000000000000000) (hc : Chn s nx) {a b : Nat} (hp : pick s = some (a, b)) : ∃ n2, Chn (s.join a b) n2 ∧ JoinC B s (s.join a b) nx n2 w a b := by
  obtain ⟨⟨ha, hWa, _, _⟩, ⟨hb, hWb, hba, _⟩⟩ := pick_some hp
  obtain ⟨la, l, z, n2, q1, q2, q3, q4, q5, q6, q7, q8, q9, q10⟩ := hc.join hf h0 hp
  refine ⟨n2, q9, fun x hx => ?_⟩
  refine (join_any (B + 1 + 1) s.W nx s.L a b (Ne.symm hba) ha hb la l q1 z q2 n2 q3 q4 q5 q6 q7 q8 _ rfl (Nat.lt_of_le_of_lt (off_two s.W ha hb (Ne.symm hba)) (by rw [hf.sum]; exact hs)) (fun x _ => by have := hf.few x; omega) x hx.gs).mono ?_
  rintro e w' ⟨rfl, hg, hbt⟩
  exact ⟨rfl, hx.res.but hbt (by omega), by rw [← q10]; exact hg, hx.low.trans (hbt.below (by omega) (by have := hx.gs.lt; omega))⟩
set_option maxHeartbeats 1000000 in
set_option maxRecDepth 100000 in
theorem lengths_any (f : Nat → Nat) (fi : Nat → Int) (hfi : ∀ i, i < 256 → fi i = f i) (hf : ∀ i, i < 256 → f i ≤ 1099511627776) (w : World) :
    Calls Try.prog 18 #[.agg (ints 256 fi)] w fun e w' => e = .returned (.agg (ints 257 fun i => (lens f i : Int))) ∧ Below w.heap.size w w' := by
  obtain ⟨F, hF⟩ : ∃ F, F = full f := ⟨_, rfl⟩
  obtain ⟨A, hA⟩ : ∃ A, A = ints 257 fun i => (lens f i : Int) := ⟨_, rfl⟩
  rw [← hA]
  have h0 : ∀ x, 257 ≤ x → F x = 0 := by rw [hF]; exact full_out f
  have hsum : off F 257 < 1000000000000000 := by
    have : off F 257 ≤ 1099511627776 * 257 := off_most fun i hi => by
      rw [hF]
      unfold full
      by_cases h1 : i = 256
      · rw [if_pos h1]; omega
      · rw [if_neg h1]
        by_cases h2 : i < 256
        · rw [if_pos h2]; exact hf i h2
        · rw [if_neg h2]; omega
    omega
  have HS0 := Lib.hid hsum
  have HA := Lib.hid hA
  have HFI := Lib.hid hfi
  have HFF := Lib.hid hF
  have H0 := Lib.hid h0
  have hz47 := zero47
  have hz61 := zero61
  have HFIT : Hid (Fit F (hstart F)) := Fit.start h0
  have HCH : Hid (Chn (hstart F) fun _ => none) := Chn.start h0
  clear hsum hA hfi hF h0 hf
  obtain ⟨wb, hwb⟩ : ∃ wb, wb = ((w.alloc (.cells (ints 256 fi) 22)).alloc (.cells (ints 257 fun _ => 0) 47)).alloc (.cells (ints 771 fun _ => 0) 61) := ⟨_, rfl⟩
  have r0 : RowN 22 256 w.heap.size fi wb := by rw [hwb]; exact ((RowN.new rfl).old _).old _
  have r1 : RowN 47 257 (w.heap.size + 1) (fun _ => 0) wb := by
    rw [hwb]
    have h := (RowN.new (t := 47) (N := 257) (f := fun _ => 0) (w := w.alloc (.cells (ints 256 fi) 22)) rfl).old (.cells (ints 771 fun _ => 0) 61)
    rwa [size_alloc] at h
  have r2 : RowN 61 771 (w.heap.size + 1 + 1) (fun _ => 0) wb := by
    rw [hwb]
    have h := RowN.new (t := 61) (N := 771) (f := fun _ => 0) (w := (w.alloc (.cells (ints 256 fi) 22)).alloc (.cells (ints 257 fun _ => 0) 47)) rfl
    rwa [size_alloc, size_alloc] at h
  have r3 : Below w.heap.size w wb := by
    rw [hwb]
    exact (((Below.refl _ _).alloc (Nat.le_refl _) _).alloc (by rw [size_alloc]; omega) _).alloc (by rw [size_alloc, size_alloc]; omega) _
  have hcp := copy_in wb.drew (w.heap.size + 1 + 1) w.heap.size fi (fun _ => 0) r2 r0
  obtain ⟨wc, hwc⟩ : ∃ wc, wc = wb.drew.setRow (w.heap.size + 1 + 1) (ints 771 fun i => if i < 256 then fi i else 0) := ⟨_, rfl⟩
  rw [← hwc] at hcp
  have R1 : Hid (RowN 47 257 (w.heap.size + 1) (fun _ => 0) wc) := by rw [hwc]; exact RowN.otherRow (w := wb.drew) r1 (by omega) _
  have R2 : Hid (RowN 61 771 (w.heap.size + 1 + 1) (fun i => if i < 256 then fi i else 0) wc) := by rw [hwc]; exact RowN.setRow (w := wb.drew) r2
  have R3 : Hid (Below w.heap.size w wc) := by rw [hwc]; exact below_setRow (w := wb.drew) (below_drawn r3 1) (by omega) _
  clear hwc r0 r1 r2 r3
  go_enter Try.func18, Try.ntmps18
  go_wp2
  rw [← hwb]
  clear hwb hz47 hz61
  go_region
  clear hcp
  have x0 := R2.out.free 256
  have x1 := R2.out.cell (i := 256) (by omega)
  go_wp2
  obtain ⟨wd, hwd⟩ : ∃ wd, wd = wc.setCell { block := w.heap.size + 1 + 1, off := 256 } (Value.int IntKind.i64 1) := ⟨_, rfl⟩
  rw [← hwd]
  have R4 : Hid (RowN 47 257 (w.heap.size + 1) (fun _ => 0) wd) := by rw [hwd]; exact R1.out.other (by omega) _
  have R5 : Hid (RowN 61 771 (w.heap.size + 1 + 1) (lay fi 0) wd) := by
    rw [hwd]
    refine (R2.out.set 256 1).congr fun i hi => ?_
    unfold lay
    by_cases e : i = 256
    · subst e; rw [updI_same, if_neg (by omega), if_pos rfl]
    · rw [updI_ne _ _ e, if_neg e]
      by_cases e2 : i < 256
      · rw [if_pos e2, if_pos e2]
      · rw [if_neg e2, if_neg e2, if_neg (by omega)]
  have R6 : Hid (Below w.heap.size w wd) := by rw [hwd]; exact below_cell R3.out (by omega) _
  clear hwd R1 R2 R3 x0 x1
  go_loopw [13] (fun i wr => ∃ n : Nat, n ≤ 257 ∧ i = .int .i64 n ∧ RowN 47 257 (w.heap.size + 1) (fun _ => 0) wr ∧ RowN 61 771 (w.heap.size + 1 + 1) (lay fi n) wr ∧ Below w.heap.size w wr) (fun i _ => 257 - (intOf i).toNat)
  case atStart => exact ⟨0, by omega, rfl, R4.out, R5.out, R6.out⟩
  case round =>
    obtain ⟨n, hn, rfl, h1, h2, h3⟩ := hrel
    have R1 := Lib.hid h1
    have R2 := Lib.hid h2
    have R3 := Lib.hid h3
    clear h1 h2 h3
    by_cases hlt : n < 257
    · have x0 := R2.out.free (257 + n)
      have x1 := R2.out.cell (i := 257 + n) (by omega)
      generalize lay fi n (257 + n) = q at x1
      go_wp2
      go_roundw
      case rel => exact ⟨n + 1, by omega, by go_num, R1.out.other (by omega) _, by have := R2.out.set (257 + n) (-1); rwa [lay_step] at this, below_cell R3.out (by omega) _⟩
      case measure => simp [intOf]; omega
    · obtain rfl : n = 257 := by omega
      clear hlt
      have HG : Hid (Gs (w.heap.size + 1 + 1) (hstart F).W (fun _ => none) (hstart F).L wr) := by
        refine ⟨R2.out.congr fun i hi => ?_⟩
        show lay fi 257 i = if i < 257 then (F i : Int) else if i < 514 then oi none else ((0 : Nat) : Int)
        rw [HFF.out]
        unfold lay full
        by_cases e1 : i < 256
        · rw [if_pos e1, if_pos (by omega), if_neg (by omega), if_pos e1, HFI.out i e1]
        · rw [if_neg e1]
          by_cases e2 : i = 256
          · rw [if_pos e2, if_pos (by omega), if_pos e2]; rfl
          · rw [if_neg e2, if_neg (by omega : ¬ i < 257)]
            by_cases e3 : i < 514
            · rw [if_pos (by omega), if_pos e3]; rfl
            · rw [if_neg (by omega), if_neg e3]; rfl
      clear R2
      rw [show ((257 : Nat) : Int) = 257 from rfl]
      go_wp2
      go_loopw [20] (fun i wr => ∃ (n : Nat) (s : HS) (nx : Nat → Option Nat), n ≤ 257 ∧ i = .int .i64 n ∧ hrun 257 (hstart F) = hrun (257 - n) s ∧ Fit F s ∧ ngr s.W + n ≤ 257 ∧ Chn s nx ∧ LSt w.heap.size s nx w wr) (fun i _ => 257 - (intOf i).toNat)
      case atStart => exact ⟨0, hstart F, _, by omega, rfl, rfl, HFIT.out, by have := HFIT.out.few 0; omega, HCH.out, ⟨R1.out, HG.out, R3.out⟩⟩
      case round =>
        obtain ⟨n, s, nx, hn, rfl, hrn, hft, hng, hch, hls⟩ := hrel
        have HL := Lib.hid hls
        have HRN := Lib.hid hrn
        have HF2 := Lib.hid hft
        have HC2 := Lib.hid hch
        have HNG := Lib.hid hng
        have h256 := hft.own 256 (by rw [HFF.out]; exact Nat.one_ne_zero)
        have hlt : n < 257 := by have := ngr_pos h256.1 h256.2; omega
        have hbd : ∀ i, i < 257 → s.W i < 1000000000000000 := fun i hi => Nat.lt_of_le_of_lt (off_at s.W hi) (by rw [HF2.out.sum]; exact HS0.out)
        cases hr1 : lst s.W 300 257 with
        | none => exact absurd (lst_none hr1 _ h256.1) (fun h => h.elim h256.2 (by have := h256.1; omega))
        | some a =>
          have ha := (lst_some hr1).1
          have hC1 : LeastC w.heap.size s nx w (-1) a := leastC_some hbd (-1) 300 (fun i hi => by omega) a hr1
          clear hls hrn hft hch h256 hng
          cases hr2 : lst s.W a 257 with
          | none =>
            have hC2 : LeastC w.heap.size s nx w a (-1) := leastC_none hbd a a (fun i hi => by omega) hr2
            have HE : Hid (hrun 257 (hstart F) = s) := HRN.out.trans (hrun_done (pick_none2 hr1 hr2) _)
            have HR : Hid (A = ints 257 fun i => (s.L i : Int)) := by
              unfold Hid
              rw [HA.out]
              unfold lens
              rw [← HFF.out, HE.out]
            have HC1 := Lib.hid hC1
            have HC2 := Lib.hid hC2
            clear hr1 hr2 hC1 hC2 hbd
            go_wp2_with (first
              | (go_at_call 27; first
                | (refine (HC1.out wr HL.out).mono ?_; rintro e w1 ⟨rfl, hb1⟩; have HL1 := Lib.hid hb1; clear hb1 HC1 HL)
                | (refine (HC2.out w1 HL1.out).mono ?_; rintro e w2 ⟨rfl, hb2⟩; have HL2 := Lib.hid hb2; clear hb2 HL1))
              | refine wpList_load_part rfl 47 _ rfl (w.heap.size + 1 + 1) 514 257 rfl (fun j => .int .i64 (s.L j)) _ (fun j hj => HL2.out.gs.cL hj) Try.underlying47 rfl (by kernel_rfl) ?_
              | refine wpList_store_row rfl 47 _ _ rfl (w.heap.size + 1) _ rfl rfl 47 _ HL2.out.res (size47i _) ((ints_size _ _).trans (ints_size _ fun i => (s.L i : Int)).symm) (ints_one _ fun i => (s.L i : Int)) ?_)
            refine bodyPost_ret_by (results_cell_row rfl _ _ (w.heap.size + 1) 47 _ (0, 0) _ rfl (RowN.setRow (f' := fun i => (s.L i : Int)) HL2.out.res) Try.underlying47 rfl (size47i _)) rfl ⟨by rw [HR.out], below_setRow HL2.out.low (by omega) _⟩
          | some b =>
            have hpk := pick_eq hr1 hr2
            have hC2 : LeastC w.heap.size s nx w a b := leastC_some hbd a a (fun i hi => by omega) b hr2
            obtain ⟨n2, hch2, hC3⟩ := joinC (B := w.heap.size) (w := w) HF2.out H0.out HS0.out HC2.out hpk
            have HQ9 := Lib.hid hch2
            have HFJ := Lib.hid (HF2.out.join hpk)
            have HRJ : Hid (hrun 257 (hstart F) = hrun (257 - (n + 1)) (s.join a b)) := by
              unfold Hid
              rw [HRN.out, show 257 - n = (257 - (n + 1)) + 1 by omega, hrun_step hpk]
            have HNJ : Hid (ngr (s.join a b).W + (n + 1) ≤ 257) := by
              have h1 := ngr_join s.W a b (lst_some hr2).1 (Ne.symm (lst_some hr2).2.2.1) (lst_some hr1).2.1 (lst_some hr2).2.1
              have h2 := HNG.out
              show ngr (upd (upd s.W a (s.W a + s.W b)) b 0) + (n + 1) ≤ 257
              omega
            have HC1 := Lib.hid hC1
            have HD2 := Lib.hid hC2
            have HC3 := Lib.hid hC3
            have hb := (lst_some hr2).1
            clear hr1 hr2 hC1 hC2 hC3 hbd hch2 hpk HF2 HRN HNG HC2
            go_wp2_with (first
              | (go_at_call 27; first
                | (refine (HC1.out wr HL.out).mono ?_; rintro e w1 ⟨rfl, hb1⟩; have HL1 := Lib.hid hb1; clear hb1 HC1 HL)
                | (refine (HD2.out w1 HL1.out).mono ?_; rintro e w2 ⟨rfl, hb2⟩; have HL2 := Lib.hid hb2; clear hb2 HL1))
              | (go_at_call 28; refine (HC3.out w2 HL2.out).mono ?_; rintro e w3 ⟨rfl, hb3⟩; have HL3 := Lib.hid hb3; clear hb3))
            go_roundw
            case rel => exact ⟨n + 1, s.join a b, n2, by omega, by go_num, HRJ.out, HFJ.out, HNJ.out, HQ9.out, HL3.out⟩
            case measure => simp [intOf]; omega
end Go.Proofs.Ytlfnjdgfllhepaa
