/- A scan's beginning: read. -/
import Derived.Test.YtfohgocdabgbgaaDoorSFrame
namespace Go.Proofs.YtfohgocdabgbgaaDoor
open Go.RowKit

/-- The components, and the state, behind k of them. -/
def rpk (s : ByteArray) (p : Nat × Nat) : Nat → List KT × (Nat × Nat)
  | 0 => ([], p)
  | k + 1 =>
    let a := rnum s 1 (rpk s p k).2
    let b := rpair s (rneed (!aheadK (rpk s p k).1 (a.1 : Nat)) 8 a.2)
    ((rpk s p k).1 ++ [(((a.1 : Nat), (b.1.1 : Nat), (b.1.2 : Nat)) : KT)], rneed (decide (b.1.1 ≤ 3) && decide (b.1.2 ≤ 3)) 8 b.2)
theorem rpk_length (s : ByteArray) (p : Nat × Nat) : ∀ k, (rpk s p k).1.length = k
  | 0 => rfl
  | k + 1 => by
    show ((rpk s p k).1 ++ _).length = _
    rw [List.length_append, rpk_length s p k]
    rfl
/-- Behind the components: four numbers, and the state. -/
def rtail (s : ByteArray) (p : Nat × Nat) : (Nat × Nat × Nat × Nat) × (Nat × Nat) :=
  let f := rnum s 1 p
  let t := rnum s 1 f.2
  let b := rpair s t.2
  ((f.1, t.1, b.1.1, b.1.2), rneed (decide (b.1.1 ≤ 13) && decide (b.1.2 ≤ 13)) 8 (rneed (decide (f.1 ≤ t.1) && decide (t.1 ≤ 63)) 8 b.2))
/-- A scan's beginning, and the state behind it. -/
def rscan (s : ByteArray) (p : Nat × Nat) : (List KT × (Nat × Nat × Nat × Nat)) × (Nat × Nat) :=
  let a := rnum s 1 p
  let x := rpk s (rneed (decide (1 ≤ a.1) && decide (a.1 ≤ 4)) 8 a.2) a.1
  ((x.1, (rtail s x.2).1), (rtail s x.2).2)
theorem size49 : (Tryd.prog.info? 49).map (·.size) = some 5 := by kernel_rfl

/-- The loop's state. -/
structure SS (B k c : Nat) (s : ByteArray) (q : Nat × Nat) (w : World) (F j : Nat) (u : Value) (wr : World) : Prop where
  rd : Rdd B k c s (rpk s q j).2 wr
  own : OwnR 117 3 cellsK w.heap.size u (rpk s q j).1 wr
  frm : wr.heap[F]? = some (.cells #[u, .int .i64 0, .int .i64 0, .int .i64 0, .int .i64 0] 49 (0, 0))
  res : wr.heap[w.heap.size]? = some (.cells #[.slice none 0 0, .int .i64 0, .int .i64 0, .int .i64 0, .int .i64 0] 49 (0, 0))
  low : Two k c w wr
  gk : F ≠ k ∧ F ≠ c ∧ w.heap.size ≠ k ∧ w.heap.size ≠ c ∧ w.heap.size < F
theorem SS.start {B k c : Nat} {s : ByteArray} {q : Nat × Nat} {w w9 : World} (hr : Rdd B k c s q w9) (hb : Two k c (w.alloc (.cells #[.slice none 0 0, .int .i64 0, .int .i64 0, .int .i64 0, .int .i64 0] 49)) w9) (hK : w.heap.size ≠ k ∧ w.heap.size ≠ c ∧ B ≤ w.heap.size) :
    SS B k c s q w w9.heap.size 0 (.slice none 0 0) (w9.alloc (.cells #[.slice none 0 0, .int .i64 0, .int .i64 0, .int .i64 0, .int .i64 0] 49)) := by
  have h1 := hb.size
  rw [size_alloc] at h1
  have h2 := hr.lt
  have h3 := hr.cur.lt
  refine ⟨hr.on (below_new _ _), OwnR.nil, heap_alloc_new _ _, ?_, ((Two.of (below_new _ _)).trans hb).trans (Two.of (below_new _ _)), by omega, by omega, hK.1, hK.2.1, by omega⟩
  rw [Below.heap_alloc _ _ _ (by omega), hb.block _ hK.1 hK.2.1 (by rw [size_alloc]; omega)]
  exact heap_alloc_new _ _
theorem SS.next {B k c : Nat} {s : ByteArray} {q : Nat × Nat} {w : World} {F j : Nat} {u : Value} {wr : World} (hS : SS B k c s q w F j u wr) {w4 w5 : World} {v5 : Value}
    (hr : Rdd B k c s (rpk s q (j + 1)).2 w4) (hb : Two k c wr w4) (ho : OwnR 117 3 cellsK w.heap.size v5 (rpk s q (j + 1)).1 w5) (hb5 : Below w.heap.size w4 w5) (hk5 : Lib.OthersKept 117 none w4 w5) :
    SS B k c s q w F (j + 1) v5 (w5.setCell ⟨F, 0, none⟩ v5) := by
  obtain ⟨g1, g2, g3, g4, g5⟩ := hS.gk
  have f1 := (hb.block _ g1 g2 (Array.getElem?_eq_some_iff.1 hS.frm).1).trans hS.frm
  have f2 := hk5 _ _ f1 (by simp) (fun c fz e => by simp only [Obj.cells.injEq] at e; exact absurd e.2.1 (by decide))
  have r1 := (hb.block _ g3 g4 (Array.getElem?_eq_some_iff.1 hS.res).1).trans hS.res
  have r2 := hk5 _ _ r1 (by simp) (fun c fz e => by simp only [Obj.cells.injEq] at e; exact absurd e.2.1 (by decide))
  have k1 := hk5 _ _ hr.box (by simp) (fun c fz e => by simp only [Obj.cells.injEq] at e; exact absurd e.2.1 (by decide))
  have c1 := hk5 _ _ hr.cur (by simp) (fun c fz e => by simp only [Obj.cells.injEq] at e; exact absurd e.2.1 (by decide))
  have hrd : Rdd B k c s (rpk s q (j + 1)).2 w5 := ⟨k1, c1, hr.bk, hr.bc, hr.le⟩
  refine ⟨hrd.keep (heap_setCell_other _ _ _ _ (Ne.symm g1)) (heap_setCell_other _ _ _ _ (Ne.symm g2)), ho.setCell f2 (by decide), ?_, ?_, ?_, g1, g2, g3, g4, g5⟩
  · simp [World.setCell, Array.getElem?_modify, f2]
  · rw [heap_setCell_other _ _ _ _ (by show w.heap.size ≠ F; omega)]
    exact r2
  · have h1 := hS.low.trans hb
    exact Two.cell (⟨hb5.os.trans h1.os, hb5.tape.trans h1.tape, hb5.output.trans h1.output, Nat.le_trans h1.size hb5.size, fun j j1 j2 jl => (hb5.block j jl).trans (h1.block j j1 j2 jl)⟩) (Nat.le_of_lt g5) _
theorem five (w : World) (g : Nat) (x0 x1 x2 x3 x4 v0 v1 v2 v3 v4 : Value) (T : TypeId) (fr : Nat × Nat) (h : w.heap[g]? = some (.cells #[x0, x1, x2, x3, x4] T fr)) :
    (((((w.setCell ⟨g, 0, none⟩ v0).setCell ⟨g, 1, none⟩ v1).setCell ⟨g, 2, none⟩ v2).setCell ⟨g, 3, none⟩ v3).setCell ⟨g, 4, none⟩ v4).heap[g]? = some (.cells #[v0, v1, v2, v3, v4] T fr) := by
  simp [World.setCell, Array.getElem?_modify, h]
theorem five_oth (w : World) (g j : Nat) (v0 v1 v2 v3 v4 : Value) (h : j ≠ g) :
    (((((w.setCell ⟨g, 0, none⟩ v0).setCell ⟨g, 1, none⟩ v1).setCell ⟨g, 2, none⟩ v2).setCell ⟨g, 3, none⟩ v3).setCell ⟨g, 4, none⟩ v4).heap[j]? = w.heap[j]? := by
  rw [heap_setCell_other _ _ _ _ h, heap_setCell_other _ _ _ _ h, heap_setCell_other _ _ _ _ h, heap_setCell_other _ _ _ _ h, heap_setCell_other _ _ _ _ h]
theorem decLe (a b : Nat) : decide ((a : Int) ≤ (b : Int)) = decide (a ≤ b) := decide_eq_decide.2 (by omega)
/-- Behind the loop: what is filled in. -/
structure TS (B k c : Nat) (s : ByteArray) (l : List KT) (N F : Nat) (u : Value) (w : World) (q : Nat × Nat) (cs : Array Value) (y : World) : Prop where
  rd : Rdd B k c s q y
  own : OwnR 117 3 cellsK N u l y
  frm : y.heap[F]? = some (.cells cs 49 (0, 0))
  res : y.heap[N]? = some (.cells #[.slice none 0 0, .int .i64 0, .int .i64 0, .int .i64 0, .int .i64 0] 49 (0, 0))
  low : Two k c w y
  gk : F ≠ k ∧ F ≠ c ∧ N ≠ k ∧ N ≠ c ∧ N < F ∧ w.heap.size ≤ N
section
variable {B k c : Nat} {s : ByteArray} {l : List KT} {N F : Nat} {u : Value} {w : World} {q q' : Nat × Nat} {cs : Array Value} {y y' : World}
theorem TS.call (h : TS B k c s l N F u w q cs y) (hr : Rdd B k c s q' y') (hb : Two k c y y') : TS B k c s l N F u w q' cs y' :=
  ⟨hr, h.own.rdd h.rd hb (by decide) (by decide), (hb.block _ h.gk.1 h.gk.2.1 (Array.getElem?_eq_some_iff.1 h.frm).1).trans h.frm, (hb.block _ h.gk.2.2.1 h.gk.2.2.2.1 (Array.getElem?_eq_some_iff.1 h.res).1).trans h.res, h.low.trans hb, h.gk⟩
theorem TS.set (h : TS B k c s l N F u w q cs y) (i : Nat) (v : Value) : TS B k c s l N F u w q (cs.setIfInBounds i v) (y.setCell ⟨F, i, none⟩ v) :=
  ⟨h.rd.keep (heap_setCell_other _ _ _ _ (Ne.symm h.gk.1)) (heap_setCell_other _ _ _ _ (Ne.symm h.gk.2.1)), h.own.setCell h.frm (by decide), heap_setCell_same _ _ _ _ _ _ h.frm,
   (heap_setCell_other _ _ _ _ (by have := h.gk.2.2.2.2.1; show N ≠ F; omega)).trans h.res, Two.cell h.low (by have := h.gk.2.2.2.2; omega) _, h.gk⟩
theorem SS.tail {q9 : Nat × Nat} {j : Nat} (h : SS B k c s q9 w F j u y) : TS B k c s (rpk s q9 j).1 w.heap.size F u w (rpk s q9 j).2 #[u, .int .i64 0, .int .i64 0, .int .i64 0, .int .i64 0] y :=
  ⟨h.rd, h.own, h.frm, h.res, h.low, h.gk.1, h.gk.2.1, h.gk.2.2.1, h.gk.2.2.2.1, h.gk.2.2.2.2, Nat.le_refl _⟩
end
set_option maxHeartbeats 4000000 in
theorem scan_two (B k c : Nat) (s : ByteArray) (hs : s.size ≤ maxLen) (p : Nat × Nat) (w : World) (h : Rdd B k c s p w) :
    Calls Tryd.prog 44 #[.pointer (some ⟨k, 0, none⟩)] w fun e w' => ∃ u, e = .returned (.agg #[u, .int .i64 ((rscan s p).1.2.1 : Nat), .int .i64 ((rscan s p).1.2.2.1 : Nat), .int .i64 ((rscan s p).1.2.2.2.1 : Nat), .int .i64 ((rscan s p).1.2.2.2.2 : Nat)]) ∧ OwnR 117 3 cellsK B u (rscan s p).1.1 w' ∧ Rdd B k c s (rscan s p).2 w' ∧ Two k c w w' := by
  have HK := Lib.hid (show w.heap.size ≠ k ∧ w.heap.size ≠ c ∧ B ≤ w.heap.size from ⟨by have := h.lt; omega, by have := h.cur.lt; omega, by have := h.lt; have := h.bk; omega⟩)
  have H0 := Lib.hid h
  unfold rscan
  simp only []
  have HA := Lib.hid fun x hx => num_two B k c s hs p 1 (by omega) (by omega) x hx
  have hm := rnum_one s p
  generalize (rnum s 1 p).1 = m at *
  generalize (rnum s 1 p).2 = q1 at *
  obtain ⟨r1, hr1⟩ : ∃ r1, r1 = (decide (1 ≤ m) && decide (m ≤ 4)) := ⟨_, rfl⟩
  rw [← hr1]
  have HR1 := Lib.hid (within_any m 1 4 r1 (hr1.trans (dec14 m)))
  have HB := Lib.hid fun x hx => need_any B k c s q1 r1 8 x hx
  generalize rneed r1 8 q1 = q9 at *
  have HX := Lib.hid fun j => rpk_length s q9 j
  have HNUM := Lib.hid fun q x hx => num_two B k c s hs q 1 (by omega) (by omega) x hx
  have HPAIR := Lib.hid fun q x hx => pair_two B k c s hs q x hx
  clear h hr1
  have H1 := Lib.hid (H0.out.on (below_new w (.cells #[.slice none 0 0, .int .i64 0, .int .i64 0, .int .i64 0, .int .i64 0] 49)))
  go_enter Tryd.func44, Tryd.ntmps44
  go_upto_region 4 with (first
    | (go_at_call 46; refine (HA.out _ H1.out).mono ?_; rintro e w1 ⟨rfl, hr, hb⟩; have K1 := Lib.hid hr; have L1 := Lib.hid hb; clear hr hb HA)
    | (go_at_call 41; refine (HR1.out _).mono ?_; rintro e w' ⟨rfl, rfl⟩; clear HR1)
    | (go_at_call 23; refine (HB.out _ K1.out).mono ?_; rintro e w9 ⟨rfl, hr, _, hb⟩; have K9 := Lib.hid hr; have L9 := Lib.hid (L1.out.trans (Two.left hb)); clear hr hb HB))
  have HS0 := Lib.hid (SS.start K9.out L9.out HK.out)
  have HFK : Hid (∃ F, F = w9.heap.size) := ⟨_, rfl⟩
  clear K1 K9 L1 L9 H1
  obtain ⟨F, hF⟩ := HFK.out
  rw [← hF] at HS0
  rw [← hF]
  clear HFK hF
  go_wp2
  go_loopw [16] (fun i wr => ∃ j : Nat, ∃ u, i = .int .i64 j ∧ j ≤ m ∧ SS B k c s q9 w F j u wr) (fun i _ => m - (intOf i).toNat)
  case atStart => exact ⟨0, _, rfl, Nat.zero_le _, HS0.out⟩
  case round =>
    obtain ⟨j, u, rfl, hj, hS⟩ := hrel
    have HS1 := Lib.hid hS
    obtain ⟨pp, mm, cc, rfl, hmm⟩ := hS.own.shape
    have XF := Lib.hid hS.frm
    clear hS HS0 hmm
    by_cases hlt : j < m
    · have hlen : (rpk s q9 j).1.length ≤ 1000 := by rw [HX.out j]; omega
      have HLE := Lib.hid hlen
      have HN := Lib.hid (HNUM.out _ _ HS1.out.rd)
      have HNX : Hid (rpk s q9 (j + 1) = rpk s q9 (j + 1)) := rfl
      unfold Hid at HNX
      conv at HNX => lhs; unfold rpk
      simp only [] at HNX
      generalize (rnum s 1 (rpk s q9 j).2).1 = a1 at *
      generalize (rnum s 1 (rpk s q9 j).2).2 = qa at *
      obtain ⟨b, hb⟩ : ∃ b, b = aheadK (rpk s q9 j).1 (a1 : Nat) := ⟨_, rfl⟩
      have HBB := Lib.hid hb
      rw [← hb] at HNX
      have HND := Lib.hid fun x hx => need_any B k c s qa (!b) 8 x hx
      generalize rneed (!b) 8 qa = qb at *
      have HPR := Lib.hid fun x hx => HPAIR.out qb x hx
      generalize (rpair s qb).1.1 = a2 at *
      generalize (rpair s qb).1.2 = a3 at *
      generalize (rpair s qb).2 = qc at *
      obtain ⟨r2, hr2⟩ : ∃ r, r = decide (a2 ≤ 3) := ⟨_, rfl⟩
      obtain ⟨r3, hr3⟩ : ∃ r, r = decide (a3 ≤ 3) := ⟨_, rfl⟩
      have e2 : decide ((a2 : Int) ≤ 3) = r2 := by rw [hr2]; exact decide_eq_decide.2 (by omega)
      have e3 : decide ((a3 : Int) ≤ 3) = r3 := by rw [hr3]; exact decide_eq_decide.2 (by omega)
      rw [← hr2, ← hr3] at HNX
      have HNE := Lib.hid fun x hx => need_any B k c s qc (r2 && r3) 8 x hx
      have HNX1 := Lib.hid (congrArg Prod.fst HNX)
      have HNX2 := Lib.hid (congrArg Prod.snd HNX)
      simp only [] at HNX1 HNX2
      clear hb hlen hr2 hr3 HNX
      go_upto_region 7 with (go_at_call 46; refine HN.out.mono ?_; rintro e y1 ⟨rfl, hr, hb⟩; have M1 := Lib.hid hr; have N1 := Lib.hid hb; clear hr hb HN)
      obtain ⟨W, hW⟩ : ∃ W, W = y1.alloc (.cells #[.int .i64 (a1 : Nat)] 3) := ⟨_, rfl⟩
      rw [← hW]
      have hp0 : W.heap[y1.heap.size]? = some (.cells #[.int .i64 (a1 : Nat)] 3 (0, 0)) := by rw [hW]; exact heap_alloc_new _ _
      have hbw : Below y1.heap.size y1 W := by rw [hW]; exact below_new _ _
      have MW := Lib.hid (M1.out.on hbw)
      have NW := Lib.hid (N1.out.trans (Two.of hbw))
      have PW := Lib.hid hp0
      have hfw := (NW.out.block _ HS1.out.gk.1 HS1.out.gk.2.1 (Array.getElem?_eq_some_iff.1 XF.out).1).trans XF.out
      have FW := Lib.hid hfw
      have x3 : W.cell? ⟨F, 0, none⟩ = some (.slice pp mm cc) := Lib.cell_of_heap hfw 0
      have OW := Lib.hid (HS1.out.own.rdd HS1.out.rd NW.out (by decide) (by decide))
      have CW := Lib.hid (ContainsK (.slice pp mm cc) _ (a1 : Nat) y1.heap.size W HLE.out (OW.out.view cellsK_size) (Lib.cell_of_heap hp0 0))
      rw [← HBB.out] at CW
      generalize y1.heap.size = Pb at *
      have HPN : Hid (Pb < W.heap.size ∧ Pb ≠ k ∧ Pb ≠ c) := ⟨(Array.getElem?_eq_some_iff.1 hp0).1, by rintro rfl; have := MW.out.box; rw [hp0] at this; simp at this, by rintro rfl; have := MW.out.cur; unfold Cur at this; rw [hp0] at this; simp at this⟩
      clear M1 N1 hp0 hbw hW hfw
      cases r2
      all_goals
        go_wp2_with (first
          | (go_at_call 61; refine CW.out.mono ?_; rintro e y2 ⟨rfl, hb⟩; have M2 := Lib.hid (MW.out.on hb); have N2 := Lib.hid (NW.out.trans (Two.of hb)); have P2 := Lib.hid ((hb.block _ HPN.out.1).trans PW.out); have F2 := Lib.hid ((hb.block _ (Array.getElem?_eq_some_iff.1 FW.out).1).trans FW.out); have O2 := Lib.hid (OW.out.on hb); clear hb CW MW NW PW FW OW)
          | (go_at_call 23; refine (HND.out _ M2.out).mono ?_; rintro e y3 ⟨rfl, hr, _, hb⟩; have M3 := Lib.hid hr; have T3 := Lib.hid (Two.left (c := c) hb); clear hr hb HND)
          | (go_at_call 63; refine (HPR.out _ M3.out).mono ?_; rintro e y4 ⟨rfl, hr, hb⟩; have M4 := Lib.hid hr; have T4 := Lib.hid (T3.out.trans hb); clear hr hb HPR)
          | (go_at_call 23; refine (HNE.out _ M4.out).mono ?_; rintro e y5 ⟨rfl, hr, _, hb⟩; have M5 := Lib.hid hr; have hb2 := T4.out.trans (Two.left (c := c) hb); have N5 := Lib.hid (N2.out.trans hb2); have p3 := (hb2.block _ HPN.out.2.1 HPN.out.2.2 (Array.getElem?_eq_some_iff.1 P2.out).1).trans P2.out; have z0 : y5.cell? ⟨Pb, 0, none⟩ = some (.int .i64 (a1 : Nat)) := Lib.cell_of_heap p3 0; have f3 := (hb2.block _ HS1.out.gk.1 HS1.out.gk.2.1 (Array.getElem?_eq_some_iff.1 F2.out).1).trans F2.out; have F3 := Lib.hid f3; have y3c : y5.cell? ⟨F, 0, none⟩ = some (.slice pp mm cc) := Lib.cell_of_heap f3 0; have O3 := Lib.hid (O2.out.rdd M2.out hb2 (by decide) (by decide)); clear hr hb hb2 p3 f3 N2 P2 F2 O2 x3 HNE)
          | (at_builtin; refine wpList_appR (cs := cellsK) (T := 117) cellsK_size cellsK_one _ _ info117 (cellsK_size _) (by decide) (by decide) Tryd.underlying47 rfl _ _ rfl w.heap.size (.slice pp mm cc) _ ((a1 : Nat), (a2 : Nat), (a3 : Nat)) rfl y5.heap.size rfl rfl O3.out (Nat.le_trans HLE.out (by decide)) (by have := N5.out.size; have := HS1.out.low.size; omega) ?_; intro v4 y6 ho hb hk; obtain ⟨p4, m4, c4, rfl, hm4⟩ := ho.shape; have O4 := Lib.hid ho; have B4 := Lib.hid hb; have K4 := Lib.hid hk; have f4 := hk _ _ F3.out (by simp) (fun c fz e => by simp only [Obj.cells.injEq] at e; exact absurd e.2.1 (by decide)); have w3c : y6.cell? ⟨F, 0, none⟩ = some (.slice pp mm cc) := Lib.cell_of_heap f4 0; have w3f := Lib.frozen_of_heap f4 0; clear ho hb hk hm4 f4))
        go_roundw
        case rel => exact ⟨j + 1, _, by go_num, by omega, HS1.out.next (by rw [← HNX2.out]; exact M5.out) N5.out (by rw [← HNX1.out]; exact O4.out) B4.out K4.out⟩
        case measure => simp [intOf]; omega
    · obtain rfl : j = m := by omega
      have HTL : Hid (rtail s (rpk s q9 j).2 = rtail s (rpk s q9 j).2) := rfl
      unfold Hid at HTL
      conv at HTL => lhs; unfold rtail
      simp only [] at HTL
      have HN1 := Lib.hid fun x hx => HNUM.out (rpk s q9 j).2 x hx
      generalize (rnum s 1 (rpk s q9 j).2).1 = a1 at *
      generalize (rnum s 1 (rpk s q9 j).2).2 = qa at *
      have HN2 := Lib.hid fun x hx => HNUM.out qa x hx
      generalize (rnum s 1 qa).1 = a2 at *
      generalize (rnum s 1 qa).2 = qb at *
      have HPR := Lib.hid fun x hx => HPAIR.out qb x hx
      generalize (rpair s qb).1.1 = a3 at *
      generalize (rpair s qb).1.2 = a4 at *
      generalize (rpair s qb).2 = qc at *
      obtain ⟨r2, hr2⟩ : ∃ r, r = decide (a1 ≤ a2) := ⟨_, rfl⟩
      obtain ⟨r3, hr3⟩ : ∃ r, r = decide (a2 ≤ 63) := ⟨_, rfl⟩
      obtain ⟨r4, hr4⟩ : ∃ r, r = decide (a3 ≤ 13) := ⟨_, rfl⟩
      obtain ⟨r5, hr5⟩ : ∃ r, r = decide (a4 ≤ 13) := ⟨_, rfl⟩
      have e2 : decide ((a1 : Int) ≤ (a2 : Int)) = r2 := by rw [hr2]; exact decide_eq_decide.2 (by omega)
      have e2' := hr2.symm
      have e3 : decide ((a2 : Int) ≤ 63) = r3 := by rw [hr3]; exact decide_eq_decide.2 (by omega)
      have e4 : decide ((a3 : Int) ≤ 13) = r4 := by rw [hr4]; exact decide_eq_decide.2 (by omega)
      have e5 : decide ((a4 : Int) ≤ 13) = r5 := by rw [hr5]; exact decide_eq_decide.2 (by omega)
      rw [← hr2, ← hr3, ← hr4, ← hr5] at HTL
      have HD1 := Lib.hid fun x hx => need_any B k c s qc (r2 && r3) 8 x hx
      generalize rneed (r2 && r3) 8 qc = qd at *
      have HD2 := Lib.hid fun x hx => need_any B k c s qd (r4 && r5) 8 x hx
      have HTQ := Lib.hid HTL
      clear hr2 hr3 hr4 hr5 HTL
      cases r2 <;> cases r4
      all_goals
        go_wp2_with (first
          | (go_at_call 46; refine (HN1.out _ HS1.out.rd).mono ?_; rintro e y1 ⟨rfl, hr, hb⟩; have t1 := HS1.out.tail.call hr hb; have x11 : y1.cell? ⟨F, 1, none⟩ = some (.int .i64 0) := Lib.cell_of_heap t1.frm 1; have x12 := Lib.frozen_of_heap t1.frm 1; have T1 := Lib.hid (t1.set 1 (.int .i64 (a1 : Nat))); clear hr hb t1 HN1)
          | (go_at_call 46; refine (HN2.out _ T1.out.rd).mono ?_; rintro e y2 ⟨rfl, hr, hb⟩; have t2 := T1.out.call hr hb; have x21 : y2.cell? ⟨F, 2, none⟩ = some (.int .i64 0) := Lib.cell_of_heap t2.frm 2; have x22 := Lib.frozen_of_heap t2.frm 2; have T2 := Lib.hid (t2.set 2 (.int .i64 (a2 : Nat))); clear hr hb t2 HN2)
          | (go_at_call 63; refine (HPR.out _ T2.out.rd).mono ?_; rintro e y3 ⟨rfl, hr, hb⟩; have t3 := T2.out.call hr hb; have x31 : y3.cell? ⟨F, 3, none⟩ = some (.int .i64 0) := Lib.cell_of_heap t3.frm 3; have x32 := Lib.frozen_of_heap t3.frm 3; have x33 : y3.cell? ⟨F, 4, none⟩ = some (.int .i64 0) := Lib.cell_of_heap t3.frm 4; have x34 := Lib.frozen_of_heap t3.frm 4; have x35 : y3.cell? ⟨F, 1, none⟩ = some (.int .i64 (a1 : Nat)) := Lib.cell_of_heap t3.frm 1; have x36 : y3.cell? ⟨F, 2, none⟩ = some (.int .i64 (a2 : Nat)) := Lib.cell_of_heap t3.frm 2; have T3 := Lib.hid ((t3.set 3 (.int .i64 (a3 : Nat))).set 4 (.int .i64 (a4 : Nat))); clear hr hb t3 HPR)
          | (go_at_call 23; refine (HD1.out _ T3.out.rd).mono ?_; rintro e y4 ⟨rfl, hr, _, hb⟩; have t4 := T3.out.call hr (Two.left (c := c) hb); have x41 : y4.cell? ⟨F, 3, none⟩ = some (.int .i64 (a3 : Nat)) := Lib.cell_of_heap t4.frm 3; have x42 : y4.cell? ⟨F, 4, none⟩ = some (.int .i64 (a4 : Nat)) := Lib.cell_of_heap t4.frm 4; have T4 := Lib.hid t4; clear hr hb t4 HD1)
          | (go_at_call 23; refine (HD2.out _ T4.out.rd).mono ?_; rintro e y5 ⟨rfl, hr, _, hb⟩; have t5 := T4.out.call hr (Two.left (c := c) hb); have c50 : y5.cell? ⟨F, 0, none⟩ = some (.slice pp mm cc) := Lib.cell_of_heap t5.frm 0; have c51 : y5.cell? ⟨F, 1, none⟩ = some (.int .i64 (a1 : Nat)) := Lib.cell_of_heap t5.frm 1; have c52 : y5.cell? ⟨F, 2, none⟩ = some (.int .i64 (a2 : Nat)) := Lib.cell_of_heap t5.frm 2; have c53 : y5.cell? ⟨F, 3, none⟩ = some (.int .i64 (a3 : Nat)) := Lib.cell_of_heap t5.frm 3; have c54 : y5.cell? ⟨F, 4, none⟩ = some (.int .i64 (a4 : Nat)) := Lib.cell_of_heap t5.frm 4; have d0 : y5.cell? ⟨w.heap.size, 0, none⟩ = some (.slice none 0 0) := Lib.cell_of_heap t5.res 0; have d1 : y5.cell? ⟨w.heap.size, 1, none⟩ = some (.int .i64 0) := Lib.cell_of_heap t5.res 1; have d2 : y5.cell? ⟨w.heap.size, 2, none⟩ = some (.int .i64 0) := Lib.cell_of_heap t5.res 2; have d3 : y5.cell? ⟨w.heap.size, 3, none⟩ = some (.int .i64 0) := Lib.cell_of_heap t5.res 3; have d4 : y5.cell? ⟨w.heap.size, 4, none⟩ = some (.int .i64 0) := Lib.cell_of_heap t5.res 4; have v0 := Lib.frozen_of_heap t5.res 0; have v1 := Lib.frozen_of_heap t5.res 1; have v2 := Lib.frozen_of_heap t5.res 2; have v3 := Lib.frozen_of_heap t5.res 3; have v4 := Lib.frozen_of_heap t5.res 4; have T5 := Lib.hid t5; clear hr hb t5 HD2))
        have hF := five y5 w.heap.size _ _ _ _ _ (.slice pp mm cc) (.int .i64 (a1 : Nat)) (.int .i64 (a2 : Nat)) (.int .i64 (a3 : Nat)) (.int .i64 (a4 : Nat)) 49 (0, 0) T5.out.res
        have hg := HS1.out.gk
        refine bodyPost_ret_by (results_cell_row rfl _ _ w.heap.size 49 _ (0, 0) _ rfl hF Tryd.underlying49 rfl size49) rfl ⟨.slice pp mm cc, ?_, ?_, ?_, ?_⟩
        · rw [← HTQ.out]
        · refine OwnR.mono (OwnR.two (k := w.heap.size) (c := w.heap.size) T5.out.own ?_ T5.out.res T5.out.res (by decide) (by decide)) HK.out.2.2
          exact Two.left ((((But.refl w.heap.size y5).setCell 0 _).setCell 1 _).setCell 2 _ |>.setCell 3 _ |>.setCell 4 _)
        · rw [← HTQ.out]
          exact T5.out.rd.keep (five_oth _ _ _ _ _ _ _ _ (Ne.symm hg.2.2.1)) (five_oth _ _ _ _ _ _ _ _ (Ne.symm hg.2.2.2.1))
        · exact Two.cell (Two.cell (Two.cell (Two.cell (Two.cell T5.out.low (Nat.le_refl _) _) (Nat.le_refl _) _) (Nat.le_refl _) _) (Nat.le_refl _) _) (Nat.le_refl _) _
end Go.Proofs.YtfohgocdabgbgaaDoor
