/- A quantization table: the walk. -/
import Derived.Test.YtfohgocdabgbgaaDoorSQuant
namespace Go.Proofs.YtfohgocdabgbgaaDoor
open Go.RowKit

theorem Two.row {k c g : Nat} {a b : World} (h : Two k c a b) (hg : a.heap.size ≤ g) (v : Array Value) : Two k c a (b.setRow g v) :=
  ⟨h.os, h.tape, h.output, by rw [setRow_size]; exact h.size, fun j h1 h2 hl => (setRow_other _ _ _ _ (by omega)).trans (h.block j h1 h2 hl)⟩
/-- The loop's state: the reader, what was filled, the result's block. -/
structure QS (B k c : Nat) (s : ByteArray) (m : Nat) (q : Nat × Nat) (w : World) (g j : Nat) (wr : World) : Prop where
  rd : Rdd B k c s (rtab s m q j) wr
  row : RowZ 64 .u16 g (mix id (fun i => (rent s m q i : Nat)) j) wr
  res : wr.heap[w.heap.size]? = some (.cells Tryd.zeroCells67 67 (0, 0))
  low : Two k c w wr
  gk : g ≠ k ∧ g ≠ c ∧ w.heap.size ≠ k ∧ w.heap.size ≠ c ∧ w.heap.size < g
theorem QS.next {B k c : Nat} {s : ByteArray} {m : Nat} {q : Nat × Nat} {w : World} {g j : Nat} {wr w2 : World} (h : QS B k c s m q w g j wr) (hl : w.heap.size < wr.heap.size) (hr : Rdd B k c s (rtab s m q (j + 1)) w2) (hb : Two k c wr w2) {z : Int} (hz : z = (rent s m q j : Nat)) :
    QS B k c s m q w g (j + 1) (w2.setCell ⟨g, j, none⟩ (.int .u16 z)) := by
  subst hz
  obtain ⟨a1, a2, a3, a4, a5⟩ := h.gk
  refine ⟨hr.keep (heap_setCell_other _ _ _ _ (Ne.symm a1)) (heap_setCell_other _ _ _ _ (Ne.symm a2)), (h.row.two hb a1 a2).set (mix_step .u16 id _ j j _ rfl fun i _ => id_iff j i), ?_, Two.cell (h.low.trans hb) (Nat.le_of_lt a5) _, h.gk⟩
  rw [heap_setCell_other _ _ _ _ (by show w.heap.size ≠ g; omega), hb.block _ a3 a4 hl]
  exact h.res
def cells67 (n : Int) (b : Bool) (f : Nat → Int) : Array Value := #[.int .i64 n, .bool b] ++ blk .u16 f
theorem cells67_size (n : Int) (b : Bool) (f : Nat → Int) : (cells67 n b f).size = 66 := by
  unfold cells67
  rw [Array.size_append, blk_size]
  rfl
theorem size67 (n : Int) (b : Bool) (f : Nat → Int) : (Tryd.prog.info? 67).map (·.size) = some (cells67 n b f).size := by rw [cells67_size]; kernel_rfl
theorem zero67_size : Tryd.zeroCells67.size = 66 := by kernel_rfl
theorem cells67_one (n : Int) (b : Bool) (f : Nat → Int) : (cells67 n b f).all (·.oneCell') = true := by
  unfold cells67
  rw [Array.all_append, blk_one]
  simp
  exact ⟨rfl, rfl⟩
theorem built67w {ops : Array Oper} {rest : List Oper} {o : Oper} {a : Act} {w : World} {Q : Exit → Act → World → Prop} (hg : o.guard = none) (x y z : Operand) (ho : o.op = .build 67 #[(0, x), (1, y), (2, z)]) (n : Int) (b : Bool) (f : Nat → Int)
    (hx : a.eval x = .int .i64 n) (hy : a.eval y = .bool b) (hz : a.eval z = .agg (blk .u16 f)) (h : wpList Tryd.prog ops Q rest (a.put o.dst (.agg (cells67 n b f))) w) : wpList Tryd.prog ops Q (o :: rest) a w := by
  have e : Tryd.prog.built 67 ((#[(0, x), (1, y), (2, z)] : Array (Nat × Operand)).map fun (i, x) => (i, a.eval x)).toList = some (cells67 n b f) := by
    have := built67 n b f
    simp only [List.map_toArray, List.map_cons, List.map_nil, hx, hy, hz]
    exact this
  refine wpList_build hg 67 _ ho (by rw [e]; rfl) ?_
  rw [e]
  exact h

set_option maxHeartbeats 2000000 in
theorem quant_two (B k c : Nat) (s : ByteArray) (hs : s.size ≤ maxLen) (p : Nat × Nat) (hB : 0 < B) (w : World) (hT : Tab w) (h : Rdd B k c s p w) :
    Calls Tryd.prog 64 #[.pointer (some ⟨k, 0, none⟩)] w fun e w' => e = .returned (.agg (quantC (rquant s p).1)) ∧ Rdd B k c s (rquant s p).2 w' ∧ Two k c w w' := by
  have hok := rplace_ok s p
  have hlt := rplace_lt s p
  have HP := Lib.hid fun x hx => place_two B k c s hs p x hx
  have HT := Lib.hid hT
  have HK := Lib.hid (show k ≠ 0 ∧ c ≠ 0 from ⟨by have := h.bk; omega, by have := h.bc; omega⟩)
  have H0 := Lib.hid h
  clear h hT
  unfold rquant
  simp only []
  generalize (rplace s p).1.1 = a at *
  generalize (rplace s p).1.2 = b at *
  generalize (rplace s p).2 = q at *
  have ha := hlt.1
  have HLT := Lib.hid (fun j => rent_lt s (1 + a) q (fun h => by have := hok h; omega) j)
  have HN := Lib.hid fun j x hx => num_gen B k c s hs (rtab s (1 + a) q j) (1 + a) (by omega) (fun h => by have := hok (rtab_ok _ _ _ _ h); omega) x hx
  clear hok hlt
  go_enter Tryd.func64, Tryd.ntmps64
  have H1 := Lib.hid (H0.out.on (below_new w (.cells Tryd.zeroCells67 67)))
  go_wp2_with (go_at_call 76; refine (HP.out _ H1.out).mono ?_; rintro e w1 ⟨rfl, hr, hb⟩; have H2 := Lib.hid hr; have HB1 := Lib.hid hb; clear hr hb HP)
  have HG : Hid (∀ Z, Z = blk .u16 (fun _ => 0) → QS B k c s (1 + a) q w w1.heap.size 0 (w1.alloc (.cells Z 64))) := by
    intro Z hZ
    have l0 := H0.out.lt
    have l1 := H0.out.cur.lt
    have l2 : w.heap.size + 1 ≤ w1.heap.size := by have := HB1.out.size; rwa [size_alloc] at this
    refine ⟨H2.out.on (below_new _ _), RowZ.new (by rw [mix_zero]; exact hZ), ?_, ?_, by omega, by omega, by omega, by omega, by omega⟩
    · rw [Below.heap_alloc _ _ _ (by omega), HB1.out.block _ (by omega) (by omega) (by rw [size_alloc]; omega)]
      exact heap_alloc_new _ _
    · exact ((Two.of (below_new _ _)).trans HB1.out).trans (Two.of (below_new _ _))
  clear H1 H2 HB1
  go_loopw [13] (fun i wr => ∃ j : Nat, i = .int .i64 j ∧ j ≤ 64 ∧ QS B k c s (1 + a) q w w1.heap.size j wr) (fun i _ => 64 - (intOf i).toNat)
  case atStart => exact ⟨0, rfl, Nat.zero_le _, HG.out _ (by kernel_rfl)⟩
  case round =>
    obtain ⟨j, rfl, hj, hS⟩ := hrel
    have HS := Lib.hid hS
    clear hS
    by_cases hlt : j < 64
    · have HC := Lib.hid (HN.out j _ HS.out.rd)
      have hv : Hid ((rnum s (1 + a) (rtab s (1 + a) q j)).1 = rent s (1 + a) q j) := rfl
      rw [hv.out] at HC
      have hv2 := HLT.out j
      have HD := Lib.hid fun x hx => need_any B k c s (rnum s (1 + a) (rtab s (1 + a) q j)).2 (decide ((rent s (1 + a) q j) ≠ 0)) 5 x hx
      have HE : Hid (rneed (decide ((rent s (1 + a) q j) ≠ 0)) 5 (rnum s (1 + a) (rtab s (1 + a) q j)).2 = rtab s (1 + a) q (j + 1)) := rfl
      rw [HE.out] at HD
      generalize hn : rent s (1 + a) q j = n at *
      have HV := Lib.hid hn
      generalize hq1 : (rnum s (1 + a) (rtab s (1 + a) q j)).2 = q1 at *
      obtain ⟨r, hr⟩ : ∃ r, r = decide (n ≠ 0) := ⟨_, rfl⟩
      have e1 : ((n : Int) != 0) = r := by
        rw [hr]
        by_cases h : n = 0
        · subst h; rfl
        · simp [h]
      rw [← hr] at HD
      have e2 : ((1 + a : Nat) : Int) = 1 + (a : Int) := by omega
      rw [e2] at HC
      clear hr hn hq1 hv HE e2
      go_wp2_with (first
        | (go_at_call 46; refine HC.out.mono ?_; rintro e w3 ⟨rfl, hr, hb⟩; have H3 := Lib.hid hr; have HB3 := Lib.hid hb; clear hr hb HC)
        | (go_at_call 23; refine (HD.out _ H3.out).mono ?_; rintro e w4 ⟨rfl, hr, _, hb⟩; have H4 := Lib.hid hr; have HB4 := Lib.hid (HB3.out.trans (Two.left hb)); have hrow := HS.out.row.two HB4.out HS.out.gk.1 HS.out.gk.2.1; have x1 := hrow.cell hlt; have x2 := hrow.free j; clear hr hb hrow HD))
      go_roundw
      case rel => exact ⟨j + 1, by go_num, by omega, HS.out.next (Array.getElem?_eq_some_iff.1 HS.out.res).1 H4.out HB4.out (by rw [HV.out])⟩
      case measure => simp [intOf]; omega
    · obtain rfl : j = 64 := by omega
      have HR : Hid (RowZ 64 .u16 w1.heap.size (fun i => (rent s (1 + a) q i : Nat)) wr) := by
        have := HS.out.row
        unfold RowZ at this
        rw [mix_all .u16 id _ fun i hi => hi] at this
        exact this
      have HU := Lib.hid (BackU (fun i => (rent s (1 + a) q i : Nat)) wr (HT.out.two HS.out.low HK.out.1 HK.out.2))
      go_wp2_with (first
        | refine wpList_load_row rfl 64 _ rfl w1.heap.size rfl 64 _ (0, 0) _ HR.out Tryd.underlying64 rfl (sizeB64 _) ?_
        | (go_at_call 80; refine HU.out.mono ?_; rintro e w5 ⟨rfl, hb⟩; have HB5 := Lib.hid hb; have H5 := Lib.hid (HS.out.rd.on hb); have HZ := Lib.hid ((hb.block _ (Array.getElem?_eq_some_iff.1 HS.out.res).1).trans HS.out.res); clear hb HU)
        | refine built67w rfl _ _ _ rfl _ _ _ rfl rfl rfl ?_
        | refine wpList_store_row rfl 67 _ _ rfl w.heap.size (cells67 b ((a : Int) == 1) fun i => (rent s (1 + a) q (sp i) : Nat)) rfl rfl 67 Tryd.zeroCells67 HZ.out (size67 _ _ _) (zero67_size.trans (cells67_size _ _ _).symm) (cells67_one _ _ _) ?_)
      have hF : (w5.setRow w.heap.size (cells67 b ((a : Int) == 1) fun i => (rent s (1 + a) q (sp i) : Nat))).heap[w.heap.size]? = some (.cells (cells67 b ((a : Int) == 1) fun i => (rent s (1 + a) q (sp i) : Nat)) 67 (0, 0)) := setRow_heap _ _ _ _ 67 (0, 0) HZ.out
      refine bodyPost_ret_by (results_cell_row rfl _ _ w.heap.size 67 _ (0, 0) _ rfl hF Tryd.underlying67 rfl (size67 _ _ _)) rfl ⟨?_, ?_, ?_⟩
      · have e : ((a : Int) == 1) = decide (a = 1) := by
          rw [Bool.eq_iff_iff]
          simp only [beq_iff_eq, decide_eq_true_eq]
          omega
        rw [e]
        rfl
      · exact H5.out.keep (setRow_other w5 _ _ _ (Ne.symm HS.out.gk.2.2.1)) (setRow_other w5 _ _ _ (Ne.symm HS.out.gk.2.2.2.1))
      · exact ((HS.out.low.trans (Two.of HB5.out)).row (Nat.le_refl _) _)
end Go.Proofs.YtfohgocdabgbgaaDoor
