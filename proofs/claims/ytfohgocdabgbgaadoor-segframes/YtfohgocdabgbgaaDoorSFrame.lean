/- A frame's beginning: read. -/
import Derived.Test.YtfohgocdabgbgaaDoorSIdx
import Derived.Deep.DeepCutAuto
namespace Go.Proofs.YtfohgocdabgbgaaDoor
open Go.RowKit

def ptI (x : Nat × Nat × Nat × Nat) : PT := ((x.1 : Nat), (x.2.1 : Nat), (x.2.2.1 : Nat), (x.2.2.2 : Nat))
/-- The components, and the state, behind k of them. -/
def rps (s : ByteArray) (p : Nat × Nat) : Nat → List PT × (Nat × Nat)
  | 0 => ([], p)
  | k + 1 => ((rps s p k).1 ++ [ptI (rpart s (rps s p k).2).1], rneed (!aheadP (rps s p k).1 ((rpart s (rps s p k).2).1.1 : Nat)) 7 (rpart s (rps s p k).2).2)
theorem rps_length (s : ByteArray) (p : Nat × Nat) : ∀ k, (rps s p k).1.length = k
  | 0 => rfl
  | k + 1 => by
    show ((rps s p k).1 ++ _).length = _
    rw [List.length_append, rps_length s p k]
    rfl
/-- Ahead of the components: the height, the width, how many they are, and the state. -/
def rhead (s : ByteArray) (p : Nat × Nat) : (Nat × Nat × Nat) × (Nat × Nat) :=
  let a := rnum s 1 p
  let h := rnum s 2 (rneed (decide (a.1 = 8)) 6 a.2)
  let w := rnum s 2 h.2
  let m := rnum s 1 (rneed (decide (h.1 ≤ 16384) && decide (w.1 ≤ 16384)) 11 (rneed (decide (h.1 ≠ 0) && decide (w.1 ≠ 0)) 7 w.2))
  ((h.1, w.1, m.1), rneed (decide (m.1 ≤ 4)) 12 (rneed (decide (m.1 ≠ 0)) 7 m.2))
/-- A frame's beginning, and the state behind it. -/
def rframe (s : ByteArray) (p : Nat × Nat) : (Nat × Nat × List PT) × (Nat × Nat) :=
  let a := rhead s p
  (((a.1.1), (a.1.2.1), (rps s a.2 a.1.2.2).1), (rps s a.2 a.1.2.2).2)
theorem size44 : (Tryd.prog.info? 44).map (·.size) = some 4 := by kernel_rfl

/-- The loop's state. -/
structure FrS (B k c : Nat) (s : ByteArray) (q : Nat × Nat) (z : Int) (h v : Nat) (w : World) (F j : Nat) (u : Value) (wr : World) : Prop where
  rd : Rdd B k c s (rps s q j).2 wr
  own : OwnR 80 4 cellsP w.heap.size u (rps s q j).1 wr
  frm : wr.heap[F]? = some (.cells #[.int .i64 z, .int .i64 (h : Nat), .int .i64 (v : Nat), u] 44 (0, 0))
  res : wr.heap[w.heap.size]? = some (.cells #[.int .i64 0, .int .i64 0, .int .i64 0, .slice none 0 0] 44 (0, 0))
  low : Two k c w wr
  gk : F ≠ k ∧ F ≠ c ∧ w.heap.size ≠ k ∧ w.heap.size ≠ c ∧ w.heap.size < F
theorem FrS.start {B k c : Nat} {s : ByteArray} {q : Nat × Nat} {z : Int} {h v : Nat} {w w9 : World} (hr : Rdd B k c s q w9) (hb : Two k c (w.alloc (.cells #[.int .i64 0, .int .i64 0, .int .i64 0, .slice none 0 0] 44)) w9) (hK : w.heap.size ≠ k ∧ w.heap.size ≠ c ∧ B ≤ w.heap.size) :
    FrS B k c s q z h v w w9.heap.size 0 (.slice none 0 0) (w9.alloc (.cells #[.int .i64 z, .int .i64 (h : Nat), .int .i64 (v : Nat), .slice none 0 0] 44)) := by
  have h1 := hb.size
  rw [size_alloc] at h1
  have h2 := hr.lt
  have h3 := hr.cur.lt
  refine ⟨hr.on (below_new _ _), OwnR.nil, heap_alloc_new _ _, ?_, ((Two.of (below_new _ _)).trans hb).trans (Two.of (below_new _ _)), by omega, by omega, hK.1, hK.2.1, by omega⟩
  rw [Below.heap_alloc _ _ _ (by omega), hb.block _ hK.1 hK.2.1 (by rw [size_alloc]; omega)]
  exact heap_alloc_new _ _
theorem FrS.next {B k c : Nat} {s : ByteArray} {q : Nat × Nat} {z : Int} {h v : Nat} {w : World} {F j : Nat} {u : Value} {wr : World} (hS : FrS B k c s q z h v w F j u wr) {w4 w5 : World} {v5 : Value}
    (hr : Rdd B k c s (rps s q (j + 1)).2 w4) (hb : Two k c wr w4) (ho : OwnR 80 4 cellsP w.heap.size v5 (rps s q (j + 1)).1 w5) (hb5 : Below w.heap.size w4 w5) (hk5 : Lib.OthersKept 80 none w4 w5) :
    FrS B k c s q z h v w F (j + 1) v5 (w5.setCell ⟨F, 3, none⟩ v5) := by
  obtain ⟨g1, g2, g3, g4, g5⟩ := hS.gk
  have f1 := (hb.block _ g1 g2 (Array.getElem?_eq_some_iff.1 hS.frm).1).trans hS.frm
  have f2 := hk5 _ _ f1 (by simp) (fun c fz e => by simp only [Obj.cells.injEq] at e; exact absurd e.2.1 (by decide))
  have r1 := (hb.block _ g3 g4 (Array.getElem?_eq_some_iff.1 hS.res).1).trans hS.res
  have r2 := hk5 _ _ r1 (by simp) (fun c fz e => by simp only [Obj.cells.injEq] at e; exact absurd e.2.1 (by decide))
  have k1 := hk5 _ _ hr.box (by simp) (fun c fz e => by simp only [Obj.cells.injEq] at e; exact absurd e.2.1 (by decide))
  have c1 := hk5 _ _ hr.cur (by simp) (fun c fz e => by simp only [Obj.cells.injEq] at e; exact absurd e.2.1 (by decide))
  have hrd : Rdd B k c s (rps s q (j + 1)).2 w5 := ⟨k1, c1, hr.bk, hr.bc, hr.le⟩
  refine ⟨hrd.keep (heap_setCell_other _ _ _ _ (Ne.symm g1)) (heap_setCell_other _ _ _ _ (Ne.symm g2)), ho.setCell f2 (by decide), ?_, ?_, ?_, g1, g2, g3, g4, g5⟩
  · simp [World.setCell, Array.getElem?_modify, f2]
  · rw [heap_setCell_other _ _ _ _ (by show w.heap.size ≠ F; omega)]
    exact r2
  · have h1 := hS.low.trans hb
    exact Two.cell (⟨hb5.os.trans h1.os, hb5.tape.trans h1.tape, hb5.output.trans h1.output, Nat.le_trans h1.size hb5.size, fun j j1 j2 jl => (hb5.block j jl).trans (h1.block j j1 j2 jl)⟩) (Nat.le_of_lt g5) _
set_option maxHeartbeats 4000000 in
theorem frame_two (B k c : Nat) (s : ByteArray) (hs : s.size ≤ maxLen) (p : Nat × Nat) (z : Int) (w : World) (h : Rdd B k c s p w) :
    Calls Tryd.prog 47 #[.pointer (some ⟨k, 0, none⟩), .int .i64 z] w fun e w' => ∃ u, e = .returned (.agg #[.int .i64 z, .int .i64 ((rframe s p).1.1 : Nat), .int .i64 ((rframe s p).1.2.1 : Nat), u]) ∧ OwnR 80 4 cellsP B u (rframe s p).1.2.2 w' ∧ Rdd B k c s (rframe s p).2 w' ∧ Two k c w w' := by
  have HK := Lib.hid (show w.heap.size ≠ k ∧ w.heap.size ≠ c ∧ B ≤ w.heap.size from ⟨by have := h.lt; omega, by have := h.cur.lt; omega, by have := h.lt; have := h.bk; omega⟩)
  have H0 := Lib.hid h
  unfold rframe
  simp only []
  have HA := Lib.hid fun x hx => num_two B k c s hs p 1 (by omega) (by omega) x hx
  have HP := Lib.hid fun q x hx => part_two B k c s hs q x hx
  have HDEF : Hid (rhead s p = rhead s p) := rfl
  unfold Hid at HDEF
  conv at HDEF => lhs; unfold rhead
  simp only [] at HDEF
  generalize (rnum s 1 p).1 = a at *
  generalize (rnum s 1 p).2 = q1 at *
  obtain ⟨r1, hr1⟩ : ∃ r1, r1 = decide (a = 8) := ⟨_, rfl⟩
  have e1 : ((a : Int) == 8) = r1 := by
    rw [hr1, Bool.eq_iff_iff]
    simp only [beq_iff_eq, decide_eq_true_eq]
    omega
  rw [← hr1] at HDEF
  have HB := Lib.hid fun x hx => need_any B k c s q1 r1 6 x hx
  generalize rneed r1 6 q1 = q2 at *
  have HC := Lib.hid fun x hx => num_two B k c s hs q2 2 (by omega) (by omega) x hx
  generalize (rnum s 2 q2).1 = hh at *
  generalize (rnum s 2 q2).2 = q3 at *
  have HD := Lib.hid fun x hx => num_two B k c s hs q3 2 (by omega) (by omega) x hx
  generalize (rnum s 2 q3).1 = ww at *
  generalize (rnum s 2 q3).2 = q4 at *
  obtain ⟨r2, hr2⟩ : ∃ r2, r2 = decide (hh ≠ 0) := ⟨_, rfl⟩
  obtain ⟨r3, hr3⟩ : ∃ r3, r3 = decide (ww ≠ 0) := ⟨_, rfl⟩
  obtain ⟨r4, hr4⟩ : ∃ r4, r4 = decide (hh ≤ 16384) := ⟨_, rfl⟩
  obtain ⟨r5, hr5⟩ : ∃ r5, r5 = decide (ww ≤ 16384) := ⟨_, rfl⟩
  have e2 : ((hh : Int) != 0) = r2 := by rw [hr2, Bool.eq_iff_iff]; simp
  have e3 : ((ww : Int) != 0) = r3 := by rw [hr3, Bool.eq_iff_iff]; simp
  have e4 : decide ((hh : Int) ≤ 16384) = r4 := by rw [hr4]; exact decide_eq_decide.2 (by omega)
  have e5 : decide ((ww : Int) ≤ 16384) = r5 := by rw [hr5]; exact decide_eq_decide.2 (by omega)
  rw [← hr2, ← hr3, ← hr4, ← hr5] at HDEF
  have HE := Lib.hid fun x hx => need_any B k c s q4 (r2 && r3) 7 x hx
  generalize rneed (r2 && r3) 7 q4 = q5 at *
  have HF := Lib.hid fun x hx => need_any B k c s q5 (r4 && r5) 11 x hx
  generalize rneed (r4 && r5) 11 q5 = q6 at *
  have HG := Lib.hid fun x hx => num_two B k c s hs q6 1 (by omega) (by omega) x hx
  have hm := rnum_one s q6
  generalize (rnum s 1 q6).1 = m at *
  generalize (rnum s 1 q6).2 = q7 at *
  obtain ⟨r6, hr6⟩ : ∃ r6, r6 = decide (m ≠ 0) := ⟨_, rfl⟩
  obtain ⟨r7, hr7⟩ : ∃ r7, r7 = decide (m ≤ 4) := ⟨_, rfl⟩
  have e6 : ((m : Int) != 0) = r6 := by rw [hr6, Bool.eq_iff_iff]; simp
  have e7 : decide ((m : Int) ≤ 4) = r7 := by rw [hr7]; exact decide_eq_decide.2 (by omega)
  rw [← hr6, ← hr7] at HDEF
  have HH := Lib.hid fun x hx => need_any B k c s q7 r6 7 x hx
  generalize rneed r6 7 q7 = q8 at *
  have HI := Lib.hid fun x hx => need_any B k c s q8 r7 12 x hx
  generalize rneed r7 12 q8 = q9 at *
  rw [← HDEF]
  simp only []
  have HX := Lib.hid fun j => rps_length s q9 j
  clear HDEF h hr1 hr2 hr3 hr4 hr5 hr6 hr7
  have hw0 : (w.alloc (.cells #[.int .i64 0, .int .i64 0, .int .i64 0, .slice none 0 0] 44)).heap[w.heap.size]? = some (.cells #[.int .i64 0, .int .i64 0, .int .i64 0, .slice none 0 0] 44 (0, 0)) := heap_alloc_new _ _
  have HW0 := Lib.hid hw0
  have H1 := Lib.hid (H0.out.on (below_new w (.cells #[.int .i64 0, .int .i64 0, .int .i64 0, .slice none 0 0] 44)))
  have HT1 : Hid (Two k c w (w.alloc (.cells #[.int .i64 0, .int .i64 0, .int .i64 0, .slice none 0 0] 44))) := Two.of (below_new _ _)
  have HSZ := Lib.hid (size_alloc w (.cells #[.int .i64 0, .int .i64 0, .int .i64 0, .slice none 0 0] 44))
  clear hw0
  cases r2 <;> cases r4
  all_goals
    go_enter Tryd.func47, Tryd.ntmps47
    go_upto_region 9 with (first
      | (go_at_call 46; refine (HA.out _ H1.out).mono ?_; rintro e w1 ⟨rfl, hr, hb⟩; have K1 := Lib.hid hr; have L1 := Lib.hid hb; clear hr hb HA)
      | (go_at_call 23; refine (HB.out _ K1.out).mono ?_; rintro e w2 ⟨rfl, hr, _, hb⟩; have K2 := Lib.hid hr; have L2 := Lib.hid (L1.out.trans (Two.left hb)); clear hr hb HB)
      | (go_at_call 46; refine (HC.out _ K2.out).mono ?_; rintro e w3 ⟨rfl, hr, hb⟩; have K3 := Lib.hid hr; have L3 := Lib.hid (L2.out.trans hb); clear hr hb HC)
      | (go_at_call 46; refine (HD.out _ K3.out).mono ?_; rintro e w4 ⟨rfl, hr, hb⟩; have K4 := Lib.hid hr; have L4 := Lib.hid (L3.out.trans hb); clear hr hb HD)
      | (go_at_call 23; refine (HE.out _ K4.out).mono ?_; rintro e w5 ⟨rfl, hr, _, hb⟩; have K5 := Lib.hid hr; have L5 := Lib.hid (L4.out.trans (Two.left hb)); clear hr hb HE)
      | (go_at_call 23; refine (HF.out _ K5.out).mono ?_; rintro e w6 ⟨rfl, hr, _, hb⟩; have K6 := Lib.hid hr; have L6 := Lib.hid (L5.out.trans (Two.left hb)); clear hr hb HF)
      | (go_at_call 46; refine (HG.out _ K6.out).mono ?_; rintro e w7 ⟨rfl, hr, hb⟩; have K7 := Lib.hid hr; have L7 := Lib.hid (L6.out.trans hb); clear hr hb HG)
      | (go_at_call 23; refine (HH.out _ K7.out).mono ?_; rintro e w8 ⟨rfl, hr, _, hb⟩; have K8 := Lib.hid hr; have L8 := Lib.hid (L7.out.trans (Two.left hb)); clear hr hb HH)
      | (go_at_call 23; refine (HI.out _ K8.out).mono ?_; rintro e w9 ⟨rfl, hr, _, hb⟩; have K9 := Lib.hid hr; have L9 := Lib.hid (L8.out.trans (Two.left hb)); clear hr hb HI))
    go_upto_region 10 with fail
    have HS0 := Lib.hid (FrS.start (z := z) (h := hh) (v := ww) K9.out L9.out HK.out)
    have HFK : Hid (∃ F, F = w9.heap.size) := ⟨_, rfl⟩
    clear K1 K2 K3 K4 K5 K6 K7 K8 K9 L1 L2 L3 L4 L5 L6 L7 L8 L9 e1 e2 e3 e4 e5 e6 e7 H1 HT1 HSZ HW0
    obtain ⟨F, hF⟩ := HFK.out
    rw [← hF] at HS0
    rw [← hF]
    clear HFK hF
    go_wp2
    go_loopw [51] (fun i wr => ∃ j : Nat, ∃ u, i = .int .i64 j ∧ j ≤ m ∧ FrS B k c s q9 z hh ww w F j u wr) (fun i _ => m - (intOf i).toNat)
    case atStart => exact ⟨0, _, rfl, Nat.zero_le _, HS0.out⟩
    case round =>
      obtain ⟨j, u, rfl, hj, hS⟩ := hrel
      have HS1 := Lib.hid hS
      obtain ⟨pp, mm, cc, rfl, hmm⟩ := hS.own.shape
      have x0 : wr.cell? ⟨F, 0, none⟩ = some (.int .i64 z) := Lib.cell_of_heap hS.frm 0
      have x1 : wr.cell? ⟨F, 1, none⟩ = some (.int .i64 (hh : Nat)) := Lib.cell_of_heap hS.frm 1
      have x2 : wr.cell? ⟨F, 2, none⟩ = some (.int .i64 (ww : Nat)) := Lib.cell_of_heap hS.frm 2
      have x3 : wr.cell? ⟨F, 3, none⟩ = some (.slice pp mm cc) := Lib.cell_of_heap hS.frm 3
      have XF := Lib.hid hS.frm
      clear hS HS0 hmm
      by_cases hlt : j < m
      · clear x0 x1 x2 x3
        have hlen : (rps s q9 j).1.length ≤ 1000 := by rw [HX.out j]; omega
        have HLE := Lib.hid hlen
        have HNX1 : Hid ((rps s q9 (j + 1)).1 = (rps s q9 j).1 ++ [((((rpart s (rps s q9 j).2).1.1 : Nat), ((rpart s (rps s q9 j).2).1.2.1 : Nat), ((rpart s (rps s q9 j).2).1.2.2.1 : Nat), ((rpart s (rps s q9 j).2).1.2.2.2 : Nat)) : PT)]) := rfl
        have HNX2 : Hid ((rps s q9 (j + 1)).2 = rneed (!aheadP (rps s q9 j).1 ((rpart s (rps s q9 j).2).1.1 : Nat)) 7 (rpart s (rps s q9 j).2).2) := rfl
        have HPJ : Hid (Calls Tryd.prog 66 #[.pointer (some ⟨k, 0, none⟩)] wr fun e w' => e = .returned (.agg #[.int .i64 ((rpart s (rps s q9 j).2).1.1 : Nat), .int .i64 ((rpart s (rps s q9 j).2).1.2.1 : Nat), .int .i64 ((rpart s (rps s q9 j).2).1.2.2.1 : Nat), .int .i64 ((rpart s (rps s q9 j).2).1.2.2.2 : Nat)]) ∧ Rdd B k c s (rpart s (rps s q9 j).2).2 w' ∧ Two k c wr w') := HP.out _ _ HS1.out.rd
        generalize (rpart s (rps s q9 j).2).1.1 = a1 at *
        generalize (rpart s (rps s q9 j).2).1.2.1 = a2 at *
        generalize (rpart s (rps s q9 j).2).1.2.2.1 = a3 at *
        generalize (rpart s (rps s q9 j).2).1.2.2.2 = a4 at *
        generalize (rpart s (rps s q9 j).2).2 = qa at *
        obtain ⟨b, hb⟩ : ∃ b, b = aheadP (rps s q9 j).1 (a1 : Nat) := ⟨_, rfl⟩
        have HBB := Lib.hid hb
        rw [← hb] at HNX2
        clear hb hlen
        go_upto_region 13 with (go_at_call 66; refine HPJ.out.mono ?_; rintro e y1 ⟨rfl, hr, hb⟩; have M1 := Lib.hid hr; have N1 := Lib.hid hb; clear hr hb HPJ)
        obtain ⟨W, hW⟩ : ∃ W, W = y1.alloc (.cells #[.int .i64 (a1 : Nat), .int .i64 (a2 : Nat), .int .i64 (a3 : Nat), .int .i64 (a4 : Nat)] 80) := ⟨_, rfl⟩
        rw [← hW]
        have hp0 : W.heap[y1.heap.size]? = some (.cells #[.int .i64 (a1 : Nat), .int .i64 (a2 : Nat), .int .i64 (a3 : Nat), .int .i64 (a4 : Nat)] 80 (0, 0)) := by rw [hW]; exact heap_alloc_new _ _
        have hbw : Below y1.heap.size y1 W := by rw [hW]; exact below_new _ _
        have MW := Lib.hid (M1.out.on hbw)
        have NW := Lib.hid (N1.out.trans (Two.of hbw))
        have PW := Lib.hid hp0
        have hfw := (NW.out.block _ HS1.out.gk.1 HS1.out.gk.2.1 (Array.getElem?_eq_some_iff.1 XF.out).1).trans XF.out
        have FW := Lib.hid hfw
        have x3 : W.cell? ⟨F, 3, none⟩ = some (.slice pp mm cc) := Lib.cell_of_heap hfw 3
        have OW := Lib.hid (HS1.out.own.rdd HS1.out.rd NW.out (by decide) (by decide))
        have CW := Lib.hid (ContainsP (.slice pp mm cc) _ (a1 : Nat) y1.heap.size W HLE.out (OW.out.view cellsP_size) (Lib.cell_of_heap hp0 0))
        rw [← HBB.out] at CW
        generalize y1.heap.size = Pb at *
        have HPN : Hid (Pb < W.heap.size ∧ Pb ≠ k ∧ Pb ≠ c) := ⟨(Array.getElem?_eq_some_iff.1 hp0).1, by rintro rfl; have := MW.out.box; rw [hp0] at this; simp at this, by rintro rfl; have := MW.out.cur; unfold Cur at this; rw [hp0] at this; simp at this⟩
        clear M1 N1 hp0 hbw hW hfw
        go_wp2_with (first
          | (go_at_call 67; refine CW.out.mono ?_; rintro e y2 ⟨rfl, hb⟩; have M2 := Lib.hid (MW.out.on hb); have N2 := Lib.hid (NW.out.trans (Two.of hb)); have P2 := Lib.hid ((hb.block _ HPN.out.1).trans PW.out); have F2 := Lib.hid ((hb.block _ (Array.getElem?_eq_some_iff.1 FW.out).1).trans FW.out); have O2 := Lib.hid (OW.out.on hb); clear hb CW MW NW PW FW OW)
          | (go_at_call 23; refine (need_any B k c s qa (!b) 7 _ M2.out).mono ?_; rintro e y3 ⟨rfl, hr, _, hb⟩; have M3 := Lib.hid hr; have hb2 := Two.left (c := c) hb; have N3 := Lib.hid (N2.out.trans hb2); have p3 := (hb2.block _ HPN.out.2.1 HPN.out.2.2 (Array.getElem?_eq_some_iff.1 P2.out).1).trans P2.out; have z0 : y3.cell? ⟨Pb, 0, none⟩ = some (.int .i64 (a1 : Nat)) := Lib.cell_of_heap p3 0; have z1 : y3.cell? ⟨Pb, 1, none⟩ = some (.int .i64 (a2 : Nat)) := Lib.cell_of_heap p3 1; have z2 : y3.cell? ⟨Pb, 2, none⟩ = some (.int .i64 (a3 : Nat)) := Lib.cell_of_heap p3 2; have z3 : y3.cell? ⟨Pb, 3, none⟩ = some (.int .i64 (a4 : Nat)) := Lib.cell_of_heap p3 3; have f3 := (hb2.block _ HS1.out.gk.1 HS1.out.gk.2.1 (Array.getElem?_eq_some_iff.1 F2.out).1).trans F2.out; have F3 := Lib.hid f3; have y3c : y3.cell? ⟨F, 3, none⟩ = some (.slice pp mm cc) := Lib.cell_of_heap f3 3; have O3 := Lib.hid (O2.out.rdd M2.out hb2 (by decide) (by decide)); clear hr hb hb2 p3 f3 M2 N2 P2 F2 O2 x3)
          | (at_builtin; refine wpList_appR (cs := cellsP) (T := 80) cellsP_size cellsP_one _ _ info80 (cellsP_size _) (by decide) (by decide) Tryd.underlying42 rfl _ _ rfl w.heap.size (.slice pp mm cc) _ ((a1 : Nat), (a2 : Nat), (a3 : Nat), (a4 : Nat)) rfl y3.heap.size rfl rfl O3.out (Nat.le_trans HLE.out (by decide)) (by have := N3.out.size; have := HS1.out.low.size; omega) ?_; intro v4 y4 ho hb hk; obtain ⟨p4, m4, c4, rfl, hm4⟩ := ho.shape; have O4 := Lib.hid ho; have B4 := Lib.hid hb; have K4 := Lib.hid hk; have f4 := hk _ _ F3.out (by simp) (fun c fz e => by simp only [Obj.cells.injEq] at e; exact absurd e.2.1 (by decide)); have w3c : y4.cell? ⟨F, 3, none⟩ = some (.slice pp mm cc) := Lib.cell_of_heap f4 3; have w3f := Lib.frozen_of_heap f4 3; clear ho hb hk hm4 f4))
        go_roundw
        case rel => exact ⟨j + 1, _, by go_num, by omega, HS1.out.next (by rw [HNX2.out]; exact M3.out) N3.out (by rw [HNX1.out]; exact O4.out) B4.out K4.out⟩
        case measure => simp [intOf]; omega
      · obtain rfl : j = m := by omega
        have HR := Lib.hid HS1.out.res
        have w0 : wr.cell? ⟨w.heap.size, 0, none⟩ = some (.int .i64 0) := Lib.cell_of_heap HR.out 0
        have w1 : wr.cell? ⟨w.heap.size, 1, none⟩ = some (.int .i64 0) := Lib.cell_of_heap HR.out 1
        have w2 : wr.cell? ⟨w.heap.size, 2, none⟩ = some (.int .i64 0) := Lib.cell_of_heap HR.out 2
        have w3 : wr.cell? ⟨w.heap.size, 3, none⟩ = some (.slice none 0 0) := Lib.cell_of_heap HR.out 3
        have v0 := Lib.frozen_of_heap HR.out 0
        have v1 := Lib.frozen_of_heap HR.out 1
        have v2 := Lib.frozen_of_heap HR.out 2
        have v3 := Lib.frozen_of_heap HR.out 3
        go_wp2
        have hF := four wr w.heap.size _ _ _ _ (.int .i64 z) (.int .i64 (hh : Nat)) (.int .i64 (ww : Nat)) (.slice pp mm cc) 44 (0, 0) HR.out
        have hg := HS1.out.gk
        refine bodyPost_ret_by (results_cell_row rfl _ _ w.heap.size 44 _ (0, 0) _ rfl hF Tryd.underlying44 rfl size44) rfl ⟨_, rfl, ?_, ?_, ?_⟩
        · have o1 := HS1.out.own
          refine OwnR.mono (OwnR.two (k := w.heap.size) (c := w.heap.size) o1 ?_ HR.out HR.out (by decide) (by decide)) HK.out.2.2
          exact Two.left ((((But.refl w.heap.size wr).setCell 0 _).setCell 1 _).setCell 2 _ |>.setCell 3 _)
        · exact HS1.out.rd.keep (four_oth _ _ _ _ _ _ _ (Ne.symm hg.2.2.1)) (four_oth _ _ _ _ _ _ _ (Ne.symm hg.2.2.2.1))
        · exact Two.cell (Two.cell (Two.cell (Two.cell HS1.out.low (Nat.le_refl _) _) (Nat.le_refl _) _) (Nat.le_refl _) _) (Nat.le_refl _) _
end Go.Proofs.YtfohgocdabgbgaaDoor
