/- Walk of the document's own Order. -/
import Derived.Test.YtfohgocdabgbgaaDoorZWalk
import Derived.Test.YtfohgocdabgbgaaDoorRPl
import Derived.Test.YtfohgocdabgbgaaDoorSQuants
import Derived.OneCell
namespace Go.Proofs.YtfohgocdabgbgaaDoor
open Go.RowKit

/-! Walk of the document's own Order. -/
theorem sizeO : (Tryd.prog.info? 135).map (·.size) = some 64 := by kernel_rfl
theorem sizeBO (f : Nat → Int) : (Tryd.prog.info? 135).map (·.size) = some (blk .i64 f).size := by rw [blk_size]; exact sizeO
/-- The zigzag as numbers. -/
def zi (k : Nat) : Int := (zz k : Nat)

/-- How many places come ahead of the i-th of a line. -/
def cu (sum i : Nat) : Nat := if i < sum - 7 then 0 else min (i - (sum - 7)) (min (sum + 1) (15 - sum))
def ocs : List Nat := [0, 1, 3, 6, 10, 15, 21, 28, 36, 43, 49, 54, 58, 61, 63, 64]
def ocnt (sum i : Nat) : Nat := ocs.getD sum 0 + cu sum i
theorem ocnt_le : ∀ s, s ≤ 15 → ∀ i, i ≤ s + 1 → (s < 15 → i ≤ s + 1 → ocnt s i ≤ 64) := by decide +kernel
/-- Which u, which v. -/
def uu (s i : Nat) : Nat := if s % 2 = 1 then s - i else i
def vv (s i : Nat) : Nat := if s % 2 = 1 then i else s - i
theorem ocnt_in : ∀ s, s < 15 → ∀ i, i < s + 1 → uu s i < 8 → vv s i < 8 → ocnt s i < 64 ∧ ocnt s (i + 1) = ocnt s i + 1 ∧ zz (ocnt s i) = 8 * vv s i + uu s i := by decide +kernel
theorem ocnt_out : ∀ s, s < 15 → ∀ i, i < s + 1 → ¬ (uu s i < 8 ∧ vv s i < 8) → ocnt s (i + 1) = ocnt s i := by decide +kernel
theorem ocnt_next : ∀ s, s < 15 → ocnt s (s + 1) = ocnt (s + 1) 0 := by decide +kernel

/-- Two new rows: the result, and what is being filled. -/
structure OSo (c : Nat → Int) (w wr : World) : Prop where
  res : RowZ 135 .i64 w.heap.size (fun _ => 0) wr
  out : RowZ 135 .i64 (w.heap.size + 1) c wr
  low : Below w.heap.size w wr
theorem OSo.start {c : Nat → Int} {w : World} {Z Z' : Array Value} (hZ : Z = blk .i64 fun _ => 0) (hZ' : Z' = blk .i64 fun _ => 0) (hc : blk .i64 c = blk .i64 fun _ => 0) : OSo c w ((w.alloc (.cells Z 135)).alloc (.cells Z' 135)) := by
  refine ⟨(RowZ.new hZ).old _, ?_, ?_⟩
  · have h := RowZ.new (t := 135) (w := w.alloc (.cells Z 135)) (hZ'.trans hc.symm)
    rwa [size_alloc] at h
  · exact ((Below.refl _ _).alloc (Nat.le_refl _) _).alloc (by rw [size_alloc]; omega) _
theorem OSo.set {c c' : Nat → Int} {w wr : World} (h : OSo c w wr) {i : Nat} {v : Int} (he : (blk .i64 c).setIfInBounds i (.int .i64 v) = blk .i64 c') : OSo c' w (wr.setCell ⟨w.heap.size + 1, i, none⟩ (.int .i64 v)) :=
  ⟨h.res.other (by omega) _, h.out.set he, h.low.setCell (p := ⟨_, _, none⟩) (by show _ ≤ w.heap.size + 1; omega) _⟩

set_option maxHeartbeats 2000000 in
theorem Order_any (w : World) : Calls Tryd.prog 56 #[] w fun e w' => e = .returned (.agg (blk .i64 zi)) ∧ Below w.heap.size w w' := by
  go_enter Tryd.func56, Tryd.ntmps56
  go_wp2
  go_loopw [2, 3] (fun k sum wr => ∃ s : Nat, sum = .int .i64 s ∧ s ≤ 15 ∧ k = .int .i64 (ocnt s 0 : Nat) ∧ OSo (mix id zi (ocnt s 0)) w wr) (fun _ i _ => 15 - (intOf i).toNat)
  case atStart => exact ⟨0, rfl, Nat.zero_le _, rfl, OSo.start (by kernel_rfl) (by kernel_rfl) (mix_zero _ _ _)⟩
  case round =>
    obtain ⟨s, rfl, hs, rfl, hS⟩ := hrel
    have HS := Lib.hid hS
    clear hS
    by_cases hlt : s < 15
    · go_wp2
      go_loopw [2, 4] (fun k i wr => ∃ j : Nat, i = .int .i64 j ∧ j ≤ s + 1 ∧ k = .int .i64 (ocnt s j : Nat) ∧ OSo (mix id zi (ocnt s j)) w wr) (fun _ i _ => s + 1 - (intOf i).toNat)
      case atStart => exact ⟨0, rfl, Nat.zero_le _, rfl, HS.out⟩
      case round =>
        obtain ⟨j, rfl, hj, rfl, hS⟩ := hrel
        have HS := Lib.hid hS
        clear hS
        by_cases hl2 : j ≤ s
        · by_cases hodd : s % 2 = 1
          · have hm : (s : Int) % 2 = 1 := by omega
            by_cases hu : s - j < 8
            · by_cases hv : j < 8
              · have hx := ocnt_in s hlt j (by omega) (by unfold uu; rw [if_pos hodd]; exact hu) (by unfold vv; rw [if_pos hodd]; exact hv)
                unfold uu vv at hx
                rw [if_pos hodd, if_pos hodd] at hx
                obtain ⟨c1, c2, c3⟩ := hx
                have HM := Lib.hid (mix_step .i64 id zi (ocnt s j) (ocnt s j) (zi (ocnt s j)) rfl (fun i _ => id_iff _ i))
                rw [← c2, show zi (ocnt s j) = 8 * ((j : Int)) + ((s : Int) - (j : Int)) from by unfold zi; rw [c3]; omega] at HM
                have x2 := HS.out.out.cell c1
                have x3 := HS.out.out.free (ocnt s j)
                have HC := Lib.hid c2
                clear c2 c3
                have hu' : (s : Int) - (j : Int) < 8 := by omega
                have hv' : (j : Int) < 8 := by omega
                generalize ocnt s j = c at *
                generalize hd : ocnt s (j + 1) = d at *
                have HD := Lib.hid hd
                clear hd
                go_wp2
                go_roundw
                case rel => exact ⟨j + 1, by go_num, by omega, by rw [HD.out, HC.out]; go_num, by rw [HD.out]; exact HS.out.set HM.out⟩
                case measure => simp [intOf]; omega
              · have HC := Lib.hid (ocnt_out s hlt j (by omega) (by unfold uu vv; rw [if_pos hodd, if_pos hodd]; exact fun h => hv h.2))
                have hu' : (s : Int) - (j : Int) < 8 := by omega
                have hv' : ¬ (j : Int) < 8 := by omega
                go_wp2
                go_roundw
                case rel => exact ⟨j + 1, by go_num, by omega, by rw [HC.out], by rw [HC.out]; exact HS.out⟩
                case measure => simp [intOf]; omega
            · have HC := Lib.hid (ocnt_out s hlt j (by omega) (by unfold uu vv; rw [if_pos hodd, if_pos hodd]; exact fun h => hu h.1))
              have hu' : ¬ (s : Int) - (j : Int) < 8 := by omega
              go_wp2
              go_roundw
              case rel => exact ⟨j + 1, by go_num, by omega, by rw [HC.out], by rw [HC.out]; exact HS.out⟩
              case measure => simp [intOf]; omega
          · have hm : ((s : Int) % 2 == 1) = false := by simp; omega
            by_cases hu : j < 8
            · by_cases hv : s - j < 8
              · have hx := ocnt_in s hlt j (by omega) (by unfold uu; rw [if_neg hodd]; exact hu) (by unfold vv; rw [if_neg hodd]; exact hv)
                unfold uu vv at hx
                rw [if_neg hodd, if_neg hodd] at hx
                obtain ⟨c1, c2, c3⟩ := hx
                have HM := Lib.hid (mix_step .i64 id zi (ocnt s j) (ocnt s j) (zi (ocnt s j)) rfl (fun i _ => id_iff _ i))
                rw [← c2, show zi (ocnt s j) = 8 * ((s : Int) - (j : Int)) + ((j : Int)) from by unfold zi; rw [c3]; omega] at HM
                have x2 := HS.out.out.cell c1
                have x3 := HS.out.out.free (ocnt s j)
                have HC := Lib.hid c2
                clear c2 c3
                have hu' : (j : Int) < 8 := by omega
                have hv' : (s : Int) - (j : Int) < 8 := by omega
                generalize ocnt s j = c at *
                generalize hd : ocnt s (j + 1) = d at *
                have HD := Lib.hid hd
                clear hd
                go_wp2
                go_roundw
                case rel => exact ⟨j + 1, by go_num, by omega, by rw [HD.out, HC.out]; go_num, by rw [HD.out]; exact HS.out.set HM.out⟩
                case measure => simp [intOf]; omega
              · have HC := Lib.hid (ocnt_out s hlt j (by omega) (by unfold uu vv; rw [if_neg hodd, if_neg hodd]; exact fun h => hv h.2))
                have hu' : (j : Int) < 8 := by omega
                have hv' : ¬ (s : Int) - (j : Int) < 8 := by omega
                go_wp2
                go_roundw
                case rel => exact ⟨j + 1, by go_num, by omega, by rw [HC.out], by rw [HC.out]; exact HS.out⟩
                case measure => simp [intOf]; omega
            · have HC := Lib.hid (ocnt_out s hlt j (by omega) (by unfold uu vv; rw [if_neg hodd, if_neg hodd]; exact fun h => hu h.1))
              have hu' : ¬ (j : Int) < 8 := by omega
              go_wp2
              go_roundw
              case rel => exact ⟨j + 1, by go_num, by omega, by rw [HC.out], by rw [HC.out]; exact HS.out⟩
              case measure => simp [intOf]; omega
        · obtain rfl : j = s + 1 := by omega
          have HN := Lib.hid (ocnt_next s hlt)
          go_wp2
          go_roundw
          case rel => exact ⟨s + 1, by go_num, by omega, by rw [HN.out], by rw [← HN.out]; exact HS.out⟩
          case measure => simp [intOf]; omega
    · obtain rfl : s = 15 := by omega
      have HR : Hid (RowZ 135 .i64 (w.heap.size + 1) zi wr) := by
        have := HS.out.out
        unfold RowZ at this
        rw [show ocnt 15 0 = 64 by decide +kernel, mix_all .i64 id _ fun i hi => hi] at this
        exact this
      go_wp2_with (first
        | refine wpList_load_row rfl 135 _ rfl (w.heap.size + 1) rfl 135 _ (0, 0) _ HR.out Tryd.underlying135 rfl (sizeBO _) ?_
        | refine wpList_store_row rfl 135 _ _ rfl w.heap.size _ rfl rfl 135 _ HS.out.res (sizeBO _) ((blk_size _ _).trans (blk_size _ _).symm) (blk_one _ _) ?_)
      refine bodyPost_ret_by (results_cell_row rfl _ _ w.heap.size 135 _ (0, 0) _ rfl (RowZ.setRow HS.out.res) Tryd.underlying135 rfl (sizeBO _)) rfl ⟨rfl, below_setRow HS.out.low (Nat.le_refl _) _⟩
/-! The document's quantization tables: the walk. -/
theorem info66 : (Tryd.prog.info? 66).map (fun i => (i.zero, i.size, i.bytes)) = some (some (.agg Tryd.zeroCells66), 66, 144) := by kernel_rfl
theorem zero66_size : Tryd.zeroCells66.size = 66 := by kernel_rfl
theorem size66 (n : Int) (b : Bool) (f : Nat → Int) : (Tryd.prog.info? 66).map (·.size) = some (cells67 n b f).size := by rw [cells67_size]; kernel_rfl
theorem builtQ (a : Int) (b : Bool) : Tryd.prog.built 66 [(0, .int .i64 a), (1, .bool b)] = some (cells67 a b fun _ => 0) := by kernel_rfl
theorem builtQw {ops : Array Oper} {rest : List Oper} {o : Oper} {a : Act} {w : World} {Q : Exit → Act → World → Prop} (hg : o.guard = none) (x y : Operand) (ho : o.op = .build 66 #[(0, x), (1, y)]) (n : Int) (b : Bool)
    (hx : a.eval x = .int .i64 n) (hy : a.eval y = .bool b) (h : wpList Tryd.prog ops Q rest (a.put o.dst (.agg (cells67 n b fun _ => 0))) w) : wpList Tryd.prog ops Q (o :: rest) a w := by
  have e : Tryd.prog.built 66 ((#[(0, x), (1, y)] : Array (Nat × Operand)).map fun (i, x) => (i, a.eval x)).toList = some (cells67 n b fun _ => 0) := by
    have := builtQ n b
    simp only [List.map_toArray, List.map_cons, List.map_nil, hx, hy]
    exact this
  refine wpList_build hg 66 _ ho (by rw [e]; rfl) ?_
  rw [e]
  exact h
theorem cells67_at (n : Int) (b : Bool) (f : Nat → Int) (i : Nat) (hi : i < 64) : (cells67 n b f)[2 + i]? = some (.int .u16 (f i)) := by
  unfold cells67
  rw [Array.getElem?_append_right (by simp), show (2 + i - (#[Value.int .i64 n, .bool b] : Array Value).size) = i by simp]
  exact blk_at _ _ _ hi
theorem cells67_set (n : Int) (b : Bool) (f g : Nat → Int) (i : Nat) (hi : i < 64) (v : Int) (h : (blk .u16 f).setIfInBounds i (.int .u16 v) = blk .u16 g) : (cells67 n b f).setIfInBounds (2 + i) (.int .u16 v) = cells67 n b g := by
  unfold cells67
  rw [← h]
  apply Array.ext_getElem?
  intro j
  rw [Array.getElem?_setIfInBounds]
  by_cases hj : 2 + i = j
  · subst hj
    rw [if_pos rfl, if_pos (by rw [Array.size_append, blk_size]; simp; omega), Array.getElem?_append_right (by simp), show (2 + i - (#[Value.int .i64 n, .bool b] : Array Value).size) = i by simp, Array.getElem?_setIfInBounds, if_pos rfl, if_pos (by rw [blk_size]; exact hi)]
  · rw [if_neg hj, Array.getElem?_append, Array.getElem?_append]
    split
    · rfl
    · rename_i h2
      rw [Array.getElem?_setIfInBounds, if_neg]
      simp at h2 ⊢
      omega

/-- The document's table that is being filled; the order; the tables so far. -/
structure QD (n : Int) (b : Bool) (f : Nat → Int) (v : Value) (done : List (Nat × Nat × (Nat → Nat))) (w : World) (g o : Nat) (wr : World) : Prop where
  own : OwnR 66 66 quantC w.heap.size v done wr
  tab : wr.heap[g]? = some (.cells (cells67 n b f) 66 (0, 0))
  ord : RowZ 135 .i64 o zi wr
  low : Below w.heap.size w wr
  new : w.heap.size ≤ g
  ne : g ≠ o
  /-- The tables so far don't lie where the new one is. -/
  apart : v.ownBlock ≠ some g
theorem QD.cell {n : Int} {b : Bool} {f : Nat → Int} {v : Value} {done : List (Nat × Nat × (Nat → Nat))} {w : World} {g o : Nat} {wr : World} (h : QD n b f v done w g o wr) {i : Nat} (hi : i < 64) : wr.cell? ⟨g, 2 + i, none⟩ = some (.int .u16 (f i)) := by
  rw [cell_of_row wr g _ _ 66 (0, 0) h.tab]
  exact cells67_at _ _ _ _ hi
theorem QD.free {n : Int} {b : Bool} {f : Nat → Int} {v : Value} {done : List (Nat × Nat × (Nat → Nat))} {w : World} {g o : Nat} {wr : World} (h : QD n b f v done w g o wr) (i : Nat) : wr.frozen? ⟨g, i, none⟩ = false := frozen_of_row wr g i _ 66 h.tab
theorem OwnR.on' {α : Type} {T : TypeId} {n B : Nat} {cs : α → Array Value} {v : Value} {l : List α} {w w' : World} (h : OwnR T n cs B v l w) (hb : Below w.heap.size w w') : OwnR T n cs B v l w' ∧ (∀ k, w.heap.size ≤ k → v.ownBlock ≠ some k) :=
  ⟨h.on hb, fun k hk e => by have := (World.ownsRow.lt h k e).2; omega⟩
theorem QD.start {n : Int} {b : Bool} {e : Nat → Int} {v : Value} {done : List (Nat × Nat × (Nat → Nat))} {w wr x w3 y : World} (hO : OwnR 66 66 quantC w.heap.size v done wr) (hB : Below w.heap.size w wr)
    (hx : x.heap[wr.heap.size]? = some (.cells (cells67 n b fun _ => 0) 66 (0, 0))) (hl : Below wr.heap.size wr x) (hb : Below x.heap.size x w3) (hy : y.heap[w3.heap.size]? = some (.cells (blk .i64 zi) 135 (0, 0))) (hl3 : Below w3.heap.size w3 y) :
    QD n b (mix sp e 0) v done w wr.heap.size w3.heap.size y := by
  have h1 := hB.size
  have hx1 := (Array.getElem?_eq_some_iff.1 hx).1
  have h2 := hb.size
  have hl2 := (hl.trans (hb.mono hl.size)).trans (hl3.mono (by omega))
  obtain ⟨o1, o2⟩ := hO.on' hl2
  refine ⟨o1, ?_, hy, hB.trans (hl2.mono h1), h1, by omega, o2 _ (Nat.le_refl _)⟩
  rw [hl3.block _ (by omega), hb.block _ (by omega), hx]
  have : blk .u16 (mix sp e 0) = blk .u16 fun _ => 0 := mix_zero _ _ _
  unfold cells67
  rw [this]
theorem QD.set {n : Int} {b : Bool} {e : Nat → Int} {v : Value} {done : List (Nat × Nat × (Nat → Nat))} {w : World} {g o j : Nat} {wr : World} (h : QD n b (mix sp e j) v done w g o wr) (hj : j < 64) {z : Int} (hz : z = e (zz j)) :
    QD n b (mix sp e (j + 1)) v done w g o (wr.setCell ⟨g, 2 + zz j, none⟩ (.int .u16 z)) := by
  subst hz
  refine ⟨ownsRow_setCell_other h.own h.apart _, ?_, h.ord.other (Ne.symm h.ne) _, h.low.setCell (p := ⟨_, _, none⟩) h.new _, h.new, h.ne, h.apart⟩
  rw [heap_setCell_same _ _ _ _ _ _ h.tab, cells67_set _ _ _ _ _ (zz_lt j hj) _ (mix_step .u16 sp e j (zz j) (e (zz j)) rfl (sp_iff j hj))]
theorem QD.all {n : Int} {b : Bool} {e : Nat → Int} {v : Value} {done : List (Nat × Nat × (Nat → Nat))} {w : World} {g o : Nat} {wr : World} (h : QD n b (mix sp e 64) v done w g o wr) : wr.heap[g]? = some (.cells (cells67 n b e) 66 (0, 0)) := by
  rw [h.tab]
  unfold cells67
  rw [mix_all .u16 sp _ sp_lt]
theorem QD.frame {n : Int} {b : Bool} {f : Nat → Int} {v : Value} {done : List (Nat × Nat × (Nat → Nat))} {w : World} {g o : Nat} {wr w' : World} (h : QD n b f v done w g o wr) (hb : Below wr.heap.size wr w') : QD n b f v done w g o w' :=
  ⟨h.own.on hb, by rw [hb.block _ (Array.getElem?_eq_some_iff.1 h.tab).1]; exact h.tab, h.ord.on hb, h.low.trans (hb.mono h.low.size), h.new, h.ne, h.apart⟩
/-- What the next entry is. -/
theorem rtab_next {s : ByteArray} {m : Nat} {q : Nat × Nat} {j t n : Nat} (h : rtab s m q j = (t, 0)) (hn : rnum s m (t, 0) = (n, (t + m, 0))) : rent s m q j = n ∧ rtab s m q (j + 1) = if n = 0 then (t + m, 5) else (t + m, 0) := by
  have e1 : rent s m q j = n := by unfold rent; rw [h, hn]
  refine ⟨e1, ?_⟩
  show rneed (decide ((rnum s m (rtab s m q j)).1 ≠ 0)) 5 (rnum s m (rtab s m q j)).2 = _
  rw [h, hn]
  by_cases h0 : n = 0
  · subst h0
    exact rneed_no rfl
  · rw [if_neg h0, show decide ((n, t + m, 0).1 ≠ 0) = true from decide_eq_true h0]
    exact rneed_yes
theorem rtab_end {s : ByteArray} {m : Nat} {q : Nat × Nat} {j t : Nat} (h : rtab s m q j = (t, 0)) (hj : j < 64) (hn : rnum s m (t, 0) = (0, (t, 4))) : (rtab s m q 64).2 = 4 := by
  have e : rtab s m q (j + 1) = (t, 4) := by
    show rneed (decide ((rnum s m (rtab s m q j)).1 ≠ 0)) 5 (rnum s m (rtab s m q j)).2 = _
    rw [h, hn]
    exact rneed_err (by simp)
  rw [rtab_stop (k := j + 1) (by rw [e]; simp) 64 (by omega), e]
theorem rtab_none {s : ByteArray} {m : Nat} {q : Nat × Nat} {j t : Nat} (h : rtab s m q j = (t, 0)) (hj : j < 64) (hn : rnum s m (t, 0) = (0, (t + m, 0))) : (rtab s m q 64).2 = 5 := by
  have e := (rtab_next h hn).2
  rw [if_pos rfl] at e
  rw [rtab_stop (k := j + 1) (by rw [e]; simp) 64 (by omega), e]
/-- What the first byte asks. -/
theorem rquant_out {s : ByteArray} {i : Nat} (h : ¬ i < s.size) (hi : i ≤ s.size) : (rquant s (i, 0)).2.2 = 4 := by
  unfold rquant
  simp only []
  rw [rplace_out h hi, rtab_err (by show (4:Nat) ≠ 0; decide)]
theorem rquant_bad {s : ByteArray} {i : Nat} (h : i < s.size) (hb : 1 < s[i].toNat / 16 ∨ 3 < s[i].toNat % 16) : (rquant s (i, 0)).2.2 = 5 := by
  unfold rquant
  simp only []
  rw [rplace_in h, show (decide (s[i].toNat / 16 ≤ 1) && decide (s[i].toNat % 16 ≤ 3)) = false by rw [Bool.and_eq_false_iff, decide_eq_false_iff_not, decide_eq_false_iff_not]; omega, rneed_no rfl, rtab_err (by show (5:Nat) ≠ 0; decide)]
theorem rquant_in {s : ByteArray} {i : Nat} (h : i < s.size) (h1 : s[i].toNat / 16 ≤ 1) (h2 : s[i].toNat % 16 ≤ 3) : rquant s (i, 0) = ((s[i].toNat % 16, s[i].toNat / 16, rent s (1 + s[i].toNat / 16) (i + 1, 0)), rtab s (1 + s[i].toNat / 16) (i + 1, 0) 64) := by
  unfold rquant
  rw [rplace_in h, show (decide (s[i].toNat / 16 ≤ 1) && decide (s[i].toNat % 16 ≤ 3)) = true by rw [decide_eq_true h1, decide_eq_true h2]; rfl, rneed_yes]

theorem QD.wide {n : Int} {b : Bool} {f : Nat → Int} {v : Value} {done : List (Nat × Nat × (Nat → Nat))} {w : World} {g o : Nat} {wr : World} (h : QD n b f v done w g o wr) : wr.cell? ⟨g, 1, none⟩ = some (.bool b) := by
  rw [cell_of_row wr g _ _ 66 (0, 0) h.tab]
  unfold cells67
  rw [Array.getElem?_append_left (by simp)]
  rfl
theorem sizeQ66 (x : Nat × Nat × (Nat → Nat)) : (Tryd.prog.info? 66).map (·.size) = some (quantC x).size := size66 _ _ _
theorem RL.nextQ {s : ByteArray} {L : List (Nat × Nat × (Nat → Nat))} {P : Nat × Nat} {f : Nat} {done : List (Nat × Nat × (Nat → Nat))} {i t : Nat} {X : Nat × Nat × (Nat → Nat)} {R : Nat × Nat} (h : RL (rquant s) s L P f done (i, 0)) (hg : i = 0 ∨ i < s.size) (hq : rquant s (i, 0) = (X, R)) (hR : R = (t, 0)) (ht : t ≤ s.size) :
    ∃ f', RL (rquant s) s L P f' (done ++ [X]) (t, 0) := by
  subst hR
  obtain ⟨f', hN⟩ := h.next (rquant_adv s) hg (by rw [hq]) (by rw [hq]; exact ht)
  rw [hq] at hN
  exact ⟨f', hN⟩
theorem quantC_67 (b a : Nat) (e : Nat → Nat) {W : Bool} (hW : W = decide (a = 1)) : quantC (b, a, e) = cells67 b W fun k => ((e (sp k) : Nat) : Int) := by subst hW; rfl
theorem RL.failQ {s : ByteArray} {L : List (Nat × Nat × (Nat → Nat))} {P : Nat × Nat} {f : Nat} {done : List (Nat × Nat × (Nat → Nat))} {i E : Nat} {X : Nat × Nat × (Nat → Nat)} {R : Nat × Nat} (h : RL (rquant s) s L P f done (i, 0)) (hg : i = 0 ∨ i < s.size) (hq : rquant s (i, 0) = (X, R)) (hR : R.2 = E) (hE : E ≠ 0) : P.2 = E := by
  have := h.fail hg (by rw [hq]; show R.2 ≠ 0; rw [hR]; exact hE)
  rw [hq] at this
  exact this.trans hR
/-- One byte, two bytes: behind the end, or a number. -/
theorem read1 (s : ByteArray) (t : Nat) (ht : t ≤ s.size) : (rby s t = -1 ∧ rnum s 1 (t, 0) = (0, (t, 4))) ∨ ∃ n : Nat, n < 65536 ∧ rby s t = (n : Int) ∧ rnum s 1 (t, 0) = (n, (t + 1, 0)) ∧ t + 1 ≤ s.size := by
  by_cases h : t < s.size
  · have := s[t].toNat_lt
    exact .inr ⟨s[t].toNat, by omega, by unfold rby; rw [dif_pos h], rnum_one' h, by omega⟩
  · exact .inl ⟨by unfold rby; rw [dif_neg h], rnum_out (by omega) ht⟩
theorem read2 (s : ByteArray) (t : Nat) (ht : t ≤ s.size) : (rby2 s t = -1 ∧ rnum s 2 (t, 0) = (0, (t, 4))) ∨ ∃ n : Nat, n < 65536 ∧ rby2 s t = (n : Int) ∧ rnum s 2 (t, 0) = (n, (t + 2, 0)) ∧ t + 2 ≤ s.size := by
  by_cases h : t + 1 < s.size
  · have h1 := s[t].toNat_lt
    have h2 := s[t + 1].toNat_lt
    refine .inr ⟨s[t].toNat * 256 + s[t + 1].toNat, by omega, ?_, rnum_two' h, by omega⟩
    unfold rby2 rby
    rw [if_pos h, dif_pos h, dif_pos (show t < s.size by omega)]
    omega
  · exact .inl ⟨by unfold rby2; rw [if_neg h], rnum_out (by omega) ht⟩

set_option maxRecDepth 100000 in
set_option maxHeartbeats 8000000 in
theorem quants_any (s : ByteArray) (hs : s.size ≤ 65533) (w : World) :
    Calls Tryd.prog 34 #[.string s] w fun e w' => ListPost 66 66 quantC (rall (rquant s) s (0, 0)).1 (rall (rquant s) s (0, 0)).2.2 w e w' := by
  generalize hL : (rall (rquant s) s (0, 0)).1 = L
  generalize hP : (rall (rquant s) s (0, 0)).2 = P
  have HST := Lib.hid (RL.start hL hP)
  have HBY := Lib.hid fun p x => byteAt_any s p x
  have HO := Lib.hid fun x => Order_any x
  have HPR := Lib.hid fun p (hp : p < maxLen) (z : Int) (hz : z = (p : Nat)) x => (show Calls Tryd.prog 37 #[.string s, .int .i64 z] x fun e w' => e = .returned (.int .i64 (rby2 s p)) ∧ Below x.heap.size x w' from by rw [hz]; exact pairAt_any s p hp x)
  clear hL hP
  go_enter Tryd.func34, Tryd.ntmps34
  go_wp2
  go_loopw [4, 5] (fun v i wr => ∃ f done p, RL (rquant s) s L P f done p ∧ i = .int .i64 (p.1 : Nat) ∧ OwnR 66 66 quantC w.heap.size v done wr ∧ Below w.heap.size w wr) (fun _ i _ => s.size + 1 - (intOf i).toNat)
  case atStart => exact ⟨0, [], (0, 0), HST.out, rfl, OwnR.nil, Below.refl _ _⟩
  case round =>
    clear HST
    obtain ⟨f, done, ⟨i, E⟩, hR, rfl, hO, hB⟩ := hrel
    obtain rfl : E = 0 := hR.ok
    rename World => wo
    have hle : i ≤ s.size := hR.le
    have HRL := Lib.hid hR
    have HOW := Lib.hid hO
    have HB := Lib.hid hB
    have HLEN : Hid (done.length ≤ i) := hR.len
    obtain ⟨q, m, cc, rfl, hm⟩ := hO.shape
    clear hR hO hB hm
    by_cases hgo : i = 0 ∨ i < s.size
    · have HGO := Lib.hid hgo
      have HBI := Lib.hid (HBY.out i)
      have c0 : ((i : Int) == 0) = true ∨ (((i : Int) == 0) = false ∧ (i : Int) < (s.size : Int)) := by
        rcases hgo with h | h
        · left; rw [beq_iff_eq]; omega
        · by_cases h0 : i = 0
          · left; rw [beq_iff_eq]; omega
          · right; exact ⟨by rw [beq_eq_false_iff_ne]; omega, by omega⟩
      by_cases hin : i < s.size
      · have hb := s[i].toNat_lt
        have HIN := Lib.hid (fun h1 h2 => rquant_in hin h1 h2)
        have HBAD := Lib.hid (fun h => rquant_bad hin h)
        have e0 : rby s i = (s[i].toNat : Int) := by unfold rby; rw [dif_pos hin]
        rw [e0] at HBI
        have e1 : ((s[i].toNat : Nat) : Int).tdiv 16 = ((s[i].toNat / 16 : Nat) : Int) := rfl
        have e2 : ((s[i].toNat : Nat) : Int).tmod 16 = ((s[i].toNat % 16 : Nat) : Int) := rfl
        have hb2 : s[i].toNat / 16 < 16 := by omega
        have hb3 : s[i].toNat % 16 < 16 := by omega
        generalize s[i].toNat / 16 = a at *
        generalize s[i].toNat % 16 = b at *
        generalize s[i].toNat = N at *
        have HSZ := Lib.hid (show ¬ s.size ≤ i by omega)
        clear hgo e0 hin
        by_cases hbad : 1 < a ∨ 3 < b
        · have hF := HRL.out.fail HGO.out (by rw [HBAD.out hbad]; decide)
          rw [HBAD.out hbad] at hF
          have HF := Lib.hid hF
          clear hF HIN HBAD HBY HO HPR
          by_cases h1 : 1 < a
          · clear hbad
            rcases c0 with c0 | ⟨c0, c1⟩
            · go_wp2_with (go_at_call 55; refine (HBI.out _).mono ?_; rintro e w2 ⟨rfl, rfl⟩)
              go_ret2
              exact ⟨.inr ⟨by rw [HF.out]; decide, by rw [HF.out]; rfl⟩, HB.out⟩
            · go_wp2_with (go_at_call 55; refine (HBI.out _).mono ?_; rintro e w2 ⟨rfl, rfl⟩)
              go_ret2
              exact ⟨.inr ⟨by rw [HF.out]; decide, by rw [HF.out]; rfl⟩, HB.out⟩
          · have h3 : 3 < b := by omega
            clear hbad
            rcases c0 with c0 | ⟨c0, c1⟩
            · go_wp2_with (go_at_call 55; refine (HBI.out _).mono ?_; rintro e w2 ⟨rfl, rfl⟩)
              go_ret2
              exact ⟨.inr ⟨by rw [HF.out]; decide, by rw [HF.out]; rfl⟩, HB.out⟩
            · go_wp2_with (go_at_call 55; refine (HBI.out _).mono ?_; rintro e w2 ⟨rfl, rfl⟩)
              go_ret2
              exact ⟨.inr ⟨by rw [HF.out]; decide, by rw [HF.out]; rfl⟩, HB.out⟩
        · obtain ⟨ha, hb4⟩ : a ≤ 1 ∧ b ≤ 3 := by omega
          have hi1 : i + 1 ≤ s.size := Nat.lt_of_not_le fun h => HSZ.out h
          have hIN := HIN.out ha hb4
          obtain ⟨M, W, hW, hM, hMW⟩ : ∃ (M : Nat) (W : Bool), W = decide (a = 1) ∧ M = 1 + a ∧ ((W = false ∧ M = 1) ∨ (W = true ∧ M = 2)) := by
            refine ⟨1 + a, decide (a = 1), rfl, rfl, ?_⟩
            rcases (show a = 0 ∨ a = 1 by omega) with rfl | rfl
            · exact .inl ⟨rfl, rfl⟩
            · exact .inr ⟨rfl, rfl⟩
          rw [← hM] at hIN
          have HIQ := Lib.hid fun _ : Unit => hIN
          have HWD := Lib.hid hW
          have HMW := Lib.hid hMW
          have e5 : ((a : Int) == 1) = W := by
            rw [hW, Bool.eq_iff_iff]
            simp only [beq_iff_eq, decide_eq_true_eq]
            omega
          have q1 : ¬ (1 : Int) < (a : Int) := by omega
          have q2 : ¬ (3 : Int) < (b : Int) := by omega
          have HQT := Lib.hid fun _ : Unit => (show rtab s M (i + 1, 0) 0 = (i + 1, 0) from rfl)
          clear HIN HBAD hbad hIN hW hM hMW
          rcases c0 with c0 | ⟨c0, c1⟩
          all_goals
            go_wp2_with (first
              | (go_at_call 55; refine (HBI.out _).mono ?_; rintro e w2 ⟨rfl, rfl⟩)
              | (go_at_call 56; refine (HO.out _).mono ?_; rintro e w3 ⟨rfl, hb⟩; have HB3 := Lib.hid hb; clear hb)
              | refine builtQw rfl _ _ rfl b W rfl rfl ?_
              | (refine wpList_fresh rfl 66 _ _ rfl (cells67 b W fun _ => 0) _ rfl rfl (size66 _ _ _) (zero66_size.trans (cells67_size _ _ _).symm) (cells67_one _ _ _) ?_; intro x hx hbx; have HX := Lib.hid hx; have HBX := Lib.hid hbx; clear hx hbx)
              | (refine wpList_fresh rfl 135 _ _ rfl (blk .i64 zi) _ rfl rfl (sizeBO _) (by rw [blk_size]; kernel_rfl) (blk_one _ _) ?_; intro y hy hby; have HY := Lib.hid hy; have HBY3 := Lib.hid hby; clear hy hby))
            have HQS := Lib.hid (QD.start (e := fun k => ((rent s M (i + 1, 0) (sp k) : Nat) : Int)) HOW.out HB.out HX.out HBX.out HB3.out HY.out HBY3.out)
            clear HBI q1 q2 e5 e1 e2 HX HBX HB3 HY HBY3
            go_loopw [5, 9] (fun iv kv wr => ∃ j t : Nat, kv = .int .i64 j ∧ j ≤ 64 ∧ iv = .int .i64 t ∧ t ≤ s.size ∧ rtab s M (i + 1, 0) j = (t, 0) ∧ QD b W (mix sp (fun k => (rent s M (i + 1, 0) (sp k) : Nat)) j) (.slice q m cc) done w wo.heap.size w3.heap.size wr) (fun _ k _ => 64 - (intOf k).toNat)
            case atStart => exact ⟨0, i + 1, rfl, Nat.zero_le _, by go_num, hi1, HQT.out (), HQS.out⟩
            case round =>
              obtain ⟨j, t, rfl, hj, rfl, ht, hrt, hD⟩ := hrel
              have HD := Lib.hid hD
              have HRT := Lib.hid fun _ : Unit => hrt
              clear hD
              by_cases hlt : j < 64
              · have HBT := Lib.hid (HBY.out t)
                have HPT := Lib.hid (HPR.out t (by unfold maxLen; omega))
                have r1 := read1 s t ht
                have r2 := read2 s t ht
                have x0 := HD.out.wide
                have x1 := HD.out.ord.cell hlt
                have x2 := HD.out.cell (zz_lt j hlt)
                have x3 := HD.out.free (2 + zz j)
                have hZ := zz_lt j hlt
                rw [show zi j = ((zz j : Nat) : Int) from rfl] at x1
                generalize hZZ : zz j = Z at *
                have HZ := Lib.hid hZZ
                have HSP : Hid (sp Z = j) := by unfold Hid; rw [← hZZ]; exact sp_zz j hlt
                generalize hN1 : rby s t = N1 at *
                generalize hN2 : rby2 s t = N2 at *
                generalize mix sp (fun k => ((rent s M (i + 1, 0) (sp k) : Nat) : Int)) j Z = U at *
                clear hN1 hN2 hZZ HBY HPR HO
                have HLT := Lib.hid hlt
                clear hrt
                rcases HMW.out with ⟨rfl, hM1⟩ | ⟨rfl, hM2⟩
                · have HM1 := Lib.hid hM1
                  clear hM1 r2
                  rcases r1 with ⟨rfl, hr⟩ | ⟨n, hn, rfl, hr, hle2⟩
                  · rw [← HM1.out] at hr
                    have hE : (rtab s M (i + 1, 0) 64).2 = 4 := rtab_end (HRT.out ()) HLT.out hr
                    have HE := Lib.hid fun _ : Unit => hE
                    clear hr hE
                    go_wp2_with (go_at_call 55; refine (HBT.out _).mono ?_; rintro e w5 ⟨rfl, rfl⟩)
                    go_ret2
                    have hF := HRL.out.failQ HGO.out (HIQ.out ()) (HE.out ()) (by decide)
                    exact ⟨.inr ⟨by rw [hF]; decide, by rw [hF]; rfl⟩, HD.out.low⟩
                  · rw [← HM1.out] at hr
                    have HR := Lib.hid fun _ : Unit => hr
                    by_cases hn0 : n = 0
                    · subst hn0
                      clear hr
                      go_wp2_with (go_at_call 55; refine (HBT.out _).mono ?_; rintro e w5 ⟨rfl, rfl⟩)
                      go_ret2
                      have hE : (rtab s M (i + 1, 0) 64).2 = 5 := rtab_none (HRT.out ()) HLT.out (by have := HR.out (); rw [HM1.out] at this ⊢; exact this)
                      have hF := HRL.out.failQ HGO.out (HIQ.out ()) hE (by decide)
                      exact ⟨.inr ⟨by rw [hF]; decide, by rw [hF]; rfl⟩, HD.out.low⟩
                    · have HN0 := Lib.hid hn0
                      have hn1 : ((n : Int) == 0) = false := by rw [beq_eq_false_iff_ne]; omega
                      clear hr hn0
                      go_wp2_with (go_at_call 55; refine (HBT.out _).mono ?_; rintro e w5 ⟨rfl, rfl⟩)
                      go_roundw
                      case rel =>
                        have hs := HD.out.set HLT.out (z := (n : Int)) (by show (n : Int) = ((rent s M (i + 1, 0) (sp (zz j)) : Nat) : Int); rw [HZ.out, HSP.out, (rtab_next (HRT.out ()) (show rnum s M (t, 0) = (n, (t + M, 0)) by have := HR.out (); rw [HM1.out] at this ⊢; exact this)).1])
                        rw [HZ.out] at hs
                        refine ⟨j + 1, t + 1, by go_num, by omega, by go_num, by omega, ?_, hs⟩
                        have := (rtab_next (HRT.out ()) (show rnum s M (t, 0) = (n, (t + M, 0)) by have := HR.out (); rw [HM1.out] at this ⊢; exact this)).2
                        rw [if_neg HN0.out] at this
                        rw [this, HM1.out]
                      case measure => simp [intOf]; omega
                · have HM2 := Lib.hid hM2
                  clear hM2 r1
                  rcases r2 with ⟨rfl, hr⟩ | ⟨n, hn, rfl, hr, hle2⟩
                  · rw [← HM2.out] at hr
                    have hE : (rtab s M (i + 1, 0) 64).2 = 4 := rtab_end (HRT.out ()) HLT.out hr
                    have HE := Lib.hid fun _ : Unit => hE
                    clear hr hE
                    go_wp2_with (first
                      | (go_at_call 55; refine (HBT.out _).mono ?_; rintro e w5 ⟨rfl, rfl⟩)
                      | (go_at_call 37; refine (HPT.out _ (by omega) _).mono ?_; rintro e w6 ⟨rfl, hb⟩; have HB6 := Lib.hid hb; clear hb))
                    go_ret2
                    have hF := HRL.out.failQ HGO.out (HIQ.out ()) (HE.out ()) (by decide)
                    exact ⟨.inr ⟨by rw [hF]; decide, by rw [hF]; rfl⟩, HD.out.low.trans (HB6.out.mono HD.out.low.size)⟩
                  · have HR := Lib.hid fun _ : Unit => hr
                    by_cases hn0 : n = 0
                    · subst hn0
                      clear hr
                      go_wp2_with (first
                        | (go_at_call 55; refine (HBT.out _).mono ?_; rintro e w5 ⟨rfl, rfl⟩)
                        | (go_at_call 37; refine (HPT.out _ (by omega) _).mono ?_; rintro e w6 ⟨rfl, hb⟩; have HB6 := Lib.hid hb; clear hb))
                      go_ret2
                      have hE : (rtab s M (i + 1, 0) 64).2 = 5 := rtab_none (HRT.out ()) HLT.out (by have := HR.out (); rw [HM2.out]; exact this)
                      have hF := HRL.out.failQ HGO.out (HIQ.out ()) hE (by decide)
                      exact ⟨.inr ⟨by rw [hF]; decide, by rw [hF]; rfl⟩, HD.out.low.trans (HB6.out.mono HD.out.low.size)⟩
                    · have HN0 := Lib.hid hn0
                      have hn1 : ((n : Int) == 0) = false := by rw [beq_eq_false_iff_ne]; omega
                      clear hr hn0 x0 x1 x2 x3
                      have x0 := HD.out.wide
                      go_wp2_with (first
                        | (go_at_call 55; refine (HBT.out _).mono ?_; rintro e w5 ⟨rfl, rfl⟩)
                        | (go_at_call 37; refine (HPT.out _ (by omega) _).mono ?_; rintro e w6 ⟨rfl, hb⟩; have HD6 := Lib.hid (HD.out.frame hb); clear hb; have x1 := HD6.out.ord.cell HLT.out; have x2 := HD6.out.cell (zz_lt j HLT.out); have x3 := HD6.out.free (2 + zz j); rw [show zi j = ((zz j : Nat) : Int) from rfl] at x1; rw [HZ.out] at x1 x2 x3; generalize mix sp (fun k => ((rent s M (i + 1, 0) (sp k) : Nat) : Int)) j Z = U at x2))
                      go_roundw
                      case rel =>
                        have hs := HD6.out.set HLT.out (z := (n : Int)) (by show (n : Int) = ((rent s M (i + 1, 0) (sp (zz j)) : Nat) : Int); rw [HZ.out, HSP.out, (rtab_next (HRT.out ()) (show rnum s M (t, 0) = (n, (t + M, 0)) by have := HR.out (); rw [HM2.out]; exact this)).1])
                        rw [HZ.out] at hs
                        refine ⟨j + 1, t + 2, by go_num, by omega, by go_num, by omega, ?_, hs⟩
                        have := (rtab_next (HRT.out ()) (show rnum s M (t, 0) = (n, (t + M, 0)) by have := HR.out (); rw [HM2.out]; exact this)).2
                        rw [if_neg HN0.out] at this
                        rw [this, HM2.out]
                      case measure => simp [intOf]; omega
              · have hj64 : j = 64 := by omega
                have hq1 : rtab s M (i + 1, 0) 64 = (t, 0) := by rw [← hj64]; exact HRT.out ()
                have hD64 := HD.out
                rw [hj64] at hD64
                obtain ⟨f', hN⟩ := HRL.out.nextQ HGO.out (HIQ.out ()) hq1 ht
                have hT := hD64.all
                rw [← quantC_67 b a (rent s M (i + 1, 0)) HWD.out] at hT
                have HT := Lib.hid hT
                have HN := Lib.hid hN
                have hti : i + 1 ≤ t := by
                  have := rtab_le s M (i + 1, 0) j
                  rw [HRT.out ()] at this
                  exact this
                clear hT hN hq1 hD64 hrt HBY HPR HO hj64 HIQ HRT HQT HQS
                obtain ⟨X, hX⟩ : ∃ X : Nat × Nat × (Nat → Nat), X = (b, a, rent s M (i + 1, 0)) := ⟨_, rfl⟩
                rw [← hX] at HT HN
                clear hX
                have hdl := HLEN.out
                go_wp2_with (first
                  | refine wpList_load_row rfl 66 _ rfl wo.heap.size rfl 66 _ (0, 0) _ HT.out Tryd.underlying66 rfl (sizeQ66 _) ?_
                  | refine wpList_bsR _ _ info66 (by decide) (by decide) Tryd.underlying33 rfl _ rfl (quantC X) (quantC_size _) rfl ?_
                  | (at_builtin; refine wpList_appR quantC_size quantC_one _ _ info66 zero66_size (by decide) (by decide) Tryd.underlying33 rfl _ _ rfl w.heap.size (.slice q m cc) done X rfl wr.heap.size rfl rfl HD.out.own (by omega) HD.out.low.size ?_; intro v4 w4 ho hb hk; have HO4 := Lib.hid ho; have HB4 := Lib.hid hb; clear ho hb hk))
                go_roundw
                case rel => exact ⟨f', _, (t, 0), HN.out, by go_num, HO4.out, HD.out.low.trans HB4.out⟩
                case measure => simp [intOf]; omega
      · have hF := HRL.out.fail HGO.out (by rw [rquant_out hin hle]; decide)
        rw [rquant_out hin hle] at hF
        have HF := Lib.hid hF
        have e0 : rby s i = -1 := by unfold rby; rw [dif_neg hin]
        rw [e0] at HBI
        clear hF HBY HO HPR hgo e0 hin
        rcases c0 with c0 | ⟨c0, c1⟩
        · go_wp2_with (go_at_call 55; refine (HBI.out _).mono ?_; rintro e w2 ⟨rfl, rfl⟩)
          go_ret2
          exact ⟨.inr ⟨by rw [HF.out]; decide, by rw [HF.out]; rfl⟩, HB.out⟩
        · go_wp2_with (go_at_call 55; refine (HBI.out _).mono ?_; rintro e w2 ⟨rfl, rfl⟩)
          go_ret2
          exact ⟨.inr ⟨by rw [HF.out]; decide, by rw [HF.out]; rfl⟩, HB.out⟩
    · have h0 : i ≠ 0 := fun h => hgo (.inl h)
      have h1 : ¬ i < s.size := fun h => hgo (.inr h)
      obtain ⟨d1, d2⟩ := HRL.out.stop h0 h1
      have HD := Lib.hid d1
      have HE := Lib.hid d2
      have c0 : ((i : Int) == 0) = false := by rw [beq_eq_false_iff_ne]; omega
      have c1 : ¬ (i : Int) < (s.size : Int) := by omega
      clear hgo h0 h1 d1 d2 HBY HO HPR
      go_wp2
      go_ret2
      exact ⟨.inl ⟨HE.out, _, rfl, by rw [HD.out]; exact HOW.out⟩, HB.out⟩
end Go.Proofs.YtfohgocdabgbgaaDoor
