/- The document's tables of codes: the walk. -/
import Derived.Test.YtfohgocdabgbgaaDoorRPl
import Derived.Test.YtfohgocdabgbgaaDoorRCodesM
import Derived.Test.YtfohgocdabgbgaaDoorSHuffs
import Derived.OneCell
namespace Go.Proofs.YtfohgocdabgbgaaDoor
open Go.RowKit

theorem size73 (x : HT) : (Tryd.prog.info? 73).map (·.size) = some (cellsH x).size := by rw [cellsH_size]; kernel_rfl
theorem info73 : (Tryd.prog.info? 73).map (fun i => (i.zero, i.size, i.bytes)) = some (some (.agg (cellsH (0, 0, fun _ => 0, ⟨#[]⟩))), 19, 48) := by kernel_rfl
theorem builtH (a b : Int) : Tryd.prog.built 73 [(0, .int .i64 a), (1, .int .i64 b)] = some (cellsH (a, b, fun _ => 0, ⟨#[]⟩)) := by kernel_rfl
theorem builtHw {ops : Array Oper} {rest : List Oper} {o : Oper} {a : Act} {w : World} {Q : Exit → Act → World → Prop} (hg : o.guard = none) (x y : Operand) (ho : o.op = .build 73 #[(0, x), (1, y)]) (n b : Int)
    (hx : a.eval x = .int .i64 n) (hy : a.eval y = .int .i64 b) (h : wpList Tryd.prog ops Q rest (a.put o.dst (.agg (cellsH (n, b, fun _ => 0, ⟨#[]⟩)))) w) : wpList Tryd.prog ops Q (o :: rest) a w := by
  have e : Tryd.prog.built 73 ((#[(0, x), (1, y)] : Array (Nat × Operand)).map fun (i, x) => (i, a.eval x)).toList = some (cellsH (n, b, fun _ => 0, ⟨#[]⟩)) := by
    have := builtH n b
    simp only [List.map_toArray, List.map_cons, List.map_nil, hx, hy]
    exact this
  refine wpList_build hg 73 _ ho (by rw [e]; rfl) ?_
  rw [e]
  exact h
/-- The document's table that is being filled; the tables so far. -/
structure HD (x : HT) (v : Value) (done : List HT) (w : World) (g : Nat) (wr : World) : Prop where
  own : OwnR 73 19 cellsH w.heap.size v done wr
  tab : wr.heap[g]? = some (.cells (cellsH x) 73 (0, 0))
  low : Below w.heap.size w wr
  new : w.heap.size ≤ g
  apart : v.ownBlock ≠ some g
section
variable {x : HT} {v : Value} {done : List HT} {w : World} {g : Nat} {wr : World}
theorem HD.free (h : HD x v done w g wr) (i : Nat) : wr.frozen? ⟨g, i, none⟩ = false := frozen_of_row wr g i _ 73 h.tab
theorem HD.start {y : World} (hO : OwnR 73 19 cellsH w.heap.size v done wr) (hB : Below w.heap.size w wr) (hx : y.heap[wr.heap.size]? = some (.cells (cellsH x) 73 (0, 0))) (hl : Below wr.heap.size wr y) : HD x v done w wr.heap.size y :=
  ⟨hO.on hl, hx, hB.trans (hl.mono hB.size), hB.size, fun e => by have := (World.ownsRow.lt hO _ e).2; omega⟩
theorem HD.set (h : HD x v done w g wr) {i : Nat} {u : Value} {y : HT} (he : (cellsH x).setIfInBounds i u = cellsH y) : HD y v done w g (wr.setCell ⟨g, i, none⟩ u) :=
  ⟨ownsRow_setCell_other h.own h.apart _, by rw [heap_setCell_same _ _ _ _ _ _ h.tab, he], h.low.setCell (p := ⟨_, _, none⟩) h.new _, h.new, h.apart⟩
theorem HD.frame {w' : World} (h : HD x v done w g wr) (hb : Below wr.heap.size wr w') : HD x v done w g w' :=
  ⟨h.own.on hb, by rw [hb.block _ (Array.getElem?_eq_some_iff.1 h.tab).1]; exact h.tab, h.low.trans (hb.mono h.low.size), h.new, h.apart⟩
theorem HD.get (h : HD x v done w g wr) (i : Nat) : wr.cell? ⟨g, i, none⟩ = (cellsH x)[i]? := cell_of_row wr g i _ 73 (0, 0) h.tab
theorem HD.count (h : HD x v done w g wr) {j : Nat} (hj : j < 16) : wr.cell? ⟨g, 2 + j, none⟩ = some (.int .u8 (x.2.2.1 j : Nat)) := by
  rw [h.get, cellsH_get, if_neg (by omega), if_neg (by omega), if_pos (by omega)]
  simp
theorem HD.text (h : HD x v done w g wr) : wr.cell? ⟨g, 18, none⟩ = some (.string x.2.2.2) := by
  rw [h.get, cellsH_get, if_neg (by omega), if_neg (by omega), if_neg (by omega), if_pos rfl]
end
theorem HD.row {a b : Int} {c : Nat → Nat} {s : ByteArray} {v : Value} {done : List HT} {w : World} {g : Nat} {wr : World} (h : HD (a, b, c, s) v done w g wr) (j : Nat) (hj : j < (cnt c).size) : wr.cell? ⟨g, 2 + j, none⟩ = (cnt c)[j]? := by
  rw [cnt_size] at hj
  rw [h.count hj, cnt_at c j hj]
/-- Plainly. -/
theorem rhuff_out {s : ByteArray} {i : Nat} (h : ¬ i < s.size) (hi : i ≤ s.size) : (rhuff s (i, 0)).2.2 = 4 := by
  unfold rhuff
  simp only []
  rw [rplace_out h hi, rcs_err (by show (4:Nat) ≠ 0; decide), rtake_err (by show (4:Nat) ≠ 0; decide), rneed_err (by show (4:Nat) ≠ 0; decide)]
theorem rhuff_bad {s : ByteArray} {i : Nat} (h : i < s.size) (hb : 1 < s[i].toNat / 16 ∨ 3 < s[i].toNat % 16) : (rhuff s (i, 0)).2.2 = 5 := by
  unfold rhuff
  simp only []
  rw [rplace_in h, show (decide (s[i].toNat / 16 ≤ 1) && decide (s[i].toNat % 16 ≤ 3)) = false by rw [Bool.and_eq_false_iff, decide_eq_false_iff_not, decide_eq_false_iff_not]; omega, rneed_no rfl, rcs_err (by show (5:Nat) ≠ 0; decide), rtake_err (by show (5:Nat) ≠ 0; decide), rneed_err (by show (5:Nat) ≠ 0; decide)]
/-- Behind the place: the counts, the symbols. -/
def hrest (s : ByteArray) (q : Nat × Nat) : ByteArray × (Nat × Nat) := rtake s (off (rcnt s q) 16) (rcs s q 16)
theorem rhuff_in {s : ByteArray} {i : Nat} (h : i < s.size) (h1 : s[i].toNat / 16 ≤ 1) (h2 : s[i].toNat % 16 ≤ 3) : rhuff s (i, 0) = (((((s[i].toNat / 16 : Nat) : Int), ((s[i].toNat % 16 : Nat) : Int), rcnt s (i + 1, 0), (hrest s (i + 1, 0)).1) : HT), rneed (rightB (rcnt s (i + 1, 0)) (hrest s (i + 1, 0)).1.data.toList) 5 (hrest s (i + 1, 0)).2) := by
  unfold rhuff hrest
  simp only []
  rw [rplace_in h, show (decide (s[i].toNat / 16 ≤ 1) && decide (s[i].toNat % 16 ≤ 3)) = true by rw [decide_eq_true h1, decide_eq_true h2]; rfl, rneed_yes]
theorem rneed_stop {ok : Bool} {x e : Nat} {p : Nat × Nat} (h : p.2 = e) (he : e ≠ 0) : (rneed ok x p).2 = e := by
  rw [rneed_err (by rw [h]; exact he)]
  exact h
theorem rcs_next {s : ByteArray} {q : Nat × Nat} {j t n : Nat} (h : rcs s q j = (t, 0)) (hn : rnum s 1 (t, 0) = (n, (t + 1, 0))) : rcnt s q j = n ∧ rcs s q (j + 1) = (t + 1, 0) := by
  have e1 : rcnt s q j = n := by unfold rcnt; rw [h, hn]
  refine ⟨e1, ?_⟩
  show (rnum s 1 (rcs s q j)).2 = _
  rw [h, hn]
theorem hrest_end {s : ByteArray} {q : Nat × Nat} {j t : Nat} (h : rcs s q j = (t, 0)) (hj : j < 16) (hn : rnum s 1 (t, 0) = (0, (t, 4))) : (hrest s q).2.2 = 4 := by
  have e : rcs s q (j + 1) = (t, 4) := by
    show (rnum s 1 (rcs s q j)).2 = _
    rw [h, hn]
  unfold hrest
  rw [rcs_stop (k := j + 1) (by rw [e]; simp) 16 (by omega), e, rtake_err (by simp)]
theorem hrest_short {s : ByteArray} {q : Nat × Nat} {t : Nat} (h : rcs s q 16 = (t, 0)) (hn : s.size - t < off (rcnt s q) 16) : (hrest s q).2.2 = 4 := by
  unfold hrest rtake
  rw [h, if_pos rfl, if_pos hn]
theorem hrest_yes {s : ByteArray} {q : Nat × Nat} {t : Nat} (h : rcs s q 16 = (t, 0)) (hn : ¬ s.size - t < off (rcnt s q) 16) : hrest s q = (s.extract t (t + off (rcnt s q) 16), (t + off (rcnt s q) 16, 0)) := by
  unfold hrest rtake
  rw [h, if_pos rfl, if_neg hn]
theorem RL.failH {s : ByteArray} {L : List HT} {P : Nat × Nat} {f : Nat} {done : List HT} {i E : Nat} {X : HT} {R : Nat × Nat} (h : RL (rhuff s) s L P f done (i, 0)) (hg : i = 0 ∨ i < s.size) (hq : rhuff s (i, 0) = (X, R)) (hR : R.2 = E) (hE : E ≠ 0) : P.2 = E := by
  have := h.fail hg (by rw [hq]; show R.2 ≠ 0; rw [hR]; exact hE)
  rw [hq] at this
  exact this.trans hR
theorem RL.nextH {s : ByteArray} {L : List HT} {P : Nat × Nat} {f : Nat} {done : List HT} {i t : Nat} {X : HT} {R : Nat × Nat} (h : RL (rhuff s) s L P f done (i, 0)) (hg : i = 0 ∨ i < s.size) (hq : rhuff s (i, 0) = (X, R)) (hR : R = (t, 0)) (ht : t ≤ s.size) :
    ∃ f', RL (rhuff s) s L P f' (done ++ [X]) (t, 0) := by
  subst hR
  obtain ⟨f', hN⟩ := h.next (rhuff_adv s) hg (by rw [hq]) (by rw [hq]; exact ht)
  rw [hq] at hN
  exact ⟨f', hN⟩
/-- One byte: behind the end, or a number. -/
theorem read1b (s : ByteArray) (t : Nat) (ht : t ≤ s.size) : (rby s t = -1 ∧ rnum s 1 (t, 0) = (0, (t, 4))) ∨ ∃ n : Nat, n < 256 ∧ rby s t = (n : Int) ∧ rnum s 1 (t, 0) = (n, (t + 1, 0)) ∧ t + 1 ≤ s.size := by
  by_cases h : t < s.size
  · exact .inr ⟨s[t].toNat, s[t].toNat_lt, by unfold rby; rw [dif_pos h], rnum_one' h, by omega⟩
  · exact .inl ⟨by unfold rby; rw [dif_neg h], rnum_out (by omega) ht⟩

set_option maxRecDepth 100000 in
set_option maxHeartbeats 8000000 in
theorem huffs_any (s : ByteArray) (hs : s.size ≤ 65533) (w : World) :
    Calls Tryd.prog 35 #[.string s] w fun e w' => ListPost 73 19 cellsH (rall (rhuff s) s (0, 0)).1 (rall (rhuff s) s (0, 0)).2.2 w e w' := by
  generalize hL : (rall (rhuff s) s (0, 0)).1 = L
  generalize hP : (rall (rhuff s) s (0, 0)).2 = P
  have HST := Lib.hid (RL.start hL hP)
  have HBY := Lib.hid fun p x => byteAt_any s p x
  clear hL hP
  go_enter Tryd.func35, Tryd.ntmps35
  go_wp2
  go_loopw [4, 5] (fun v i wr => ∃ f done p, RL (rhuff s) s L P f done p ∧ i = .int .i64 (p.1 : Nat) ∧ OwnR 73 19 cellsH w.heap.size v done wr ∧ Below w.heap.size w wr) (fun _ i _ => s.size + 1 - (intOf i).toNat)
  case atStart => exact ⟨0, [], (0, 0), HST.out, rfl, OwnR.nil, Below.refl _ _⟩
  case round =>
    clear HST
    obtain ⟨f, done, ⟨i, E⟩, hR, rfl, hO, hB⟩ := hrel
    obtain rfl : E = 0 := hR.ok
    rename World => wo
    have hle : i ≤ s.size := hR.le
    have HRL := Lib.hid hR
    have HOW := Lib.hid hO
    have HB := Lib.hid hB
    have HLEN : Hid (done.length ≤ i) := hR.len
    obtain ⟨q, m, cc, rfl, hm⟩ := hO.shape
    clear hR hO hB hm
    by_cases hgo : i = 0 ∨ i < s.size
    · have HGO := Lib.hid hgo
      have HBI := Lib.hid (HBY.out i)
      have c0 : ((i : Int) == 0) = true ∨ (((i : Int) == 0) = false ∧ (i : Int) < (s.size : Int)) := by
        rcases hgo with h | h
        · left; rw [beq_iff_eq]; omega
        · by_cases h0 : i = 0
          · left; rw [beq_iff_eq]; omega
          · right; exact ⟨by rw [beq_eq_false_iff_ne]; omega, by omega⟩
      by_cases hin : i < s.size
      · have hb := s[i].toNat_lt
        have HIN := Lib.hid (fun h1 h2 => rhuff_in hin h1 h2)
        have HBAD := Lib.hid (fun h => rhuff_bad hin h)
        have e0 : rby s i = (s[i].toNat : Int) := by unfold rby; rw [dif_pos hin]
        rw [e0] at HBI
        have e1 : ((s[i].toNat : Nat) : Int).tdiv 16 = ((s[i].toNat / 16 : Nat) : Int) := rfl
        have e2 : ((s[i].toNat : Nat) : Int).tmod 16 = ((s[i].toNat % 16 : Nat) : Int) := rfl
        have hb2 : s[i].toNat / 16 < 16 := by omega
        have hb3 : s[i].toNat % 16 < 16 := by omega
        generalize s[i].toNat / 16 = a at *
        generalize s[i].toNat % 16 = b at *
        generalize s[i].toNat = N at *
        have HSZ := Lib.hid (show ¬ s.size ≤ i by omega)
        clear hgo e0 hin
        by_cases hbad : 1 < a ∨ 3 < b
        · have hF := HRL.out.fail HGO.out (by rw [HBAD.out hbad]; decide)
          rw [HBAD.out hbad] at hF
          have HF := Lib.hid hF
          clear hF HIN HBAD HBY
          by_cases h1 : 1 < a
          · clear hbad
            rcases c0 with c0 | ⟨c0, c1⟩
            all_goals
              go_wp2_with (go_at_call 55; refine (HBI.out _).mono ?_; rintro e w2 ⟨rfl, rfl⟩)
              go_ret2
              exact ⟨.inr ⟨by rw [HF.out]; decide, by rw [HF.out]; rfl⟩, HB.out⟩
          · have h3 : 3 < b := by omega
            clear hbad
            rcases c0 with c0 | ⟨c0, c1⟩
            all_goals
              go_wp2_with (go_at_call 55; refine (HBI.out _).mono ?_; rintro e w2 ⟨rfl, rfl⟩)
              go_ret2
              exact ⟨.inr ⟨by rw [HF.out]; decide, by rw [HF.out]; rfl⟩, HB.out⟩
        · obtain ⟨ha, hb4⟩ : a ≤ 1 ∧ b ≤ 3 := by omega
          have hi1 : i + 1 ≤ s.size := Nat.lt_of_not_le fun h => HSZ.out h
          have hIN := HIN.out ha hb4
          have HCC := Lib.hid (rcnt_lt s (i + 1, 0))
          have hr0 : rcs s (i + 1, 0) 0 = (i + 1, 0) := rfl
          have HIQ := Lib.hid fun _ : Unit => hIN
          have HQT := Lib.hid fun _ : Unit => hr0
          have q1 : ¬ (1 : Int) < (a : Int) := by omega
          have q2 : ¬ (3 : Int) < (b : Int) := by omega
          clear HIN HBAD hbad hIN hr0
          rcases c0 with c0 | ⟨c0, c1⟩
          all_goals
            go_wp2_with (first
              | (go_at_call 55; refine (HBI.out _).mono ?_; rintro e w2 ⟨rfl, rfl⟩)
              | refine builtHw rfl _ _ rfl a b rfl rfl ?_
              | (refine wpList_fresh rfl 73 _ _ rfl (cellsH (a, b, fun _ => 0, ⟨#[]⟩)) _ rfl rfl (size73 _) (by rw [cellsH_size]; kernel_rfl) (cellsH_one _) ?_; intro x hx hbx; have HX := Lib.hid hx; have HBX := Lib.hid hbx; clear hx hbx))
            have HQS := Lib.hid (HD.start HOW.out HB.out HX.out HBX.out)
            clear HBI q1 q2 e1 e2 HX HBX
            go_loopw [5, 8, 9] (fun iv sv kv wr => ∃ j : Nat, kv = .int .i64 j ∧ j ≤ 16 ∧ iv = .int .i64 (i + 1 + j : Nat) ∧ i + 1 + j ≤ s.size ∧ sv = .int .i64 (off (rcnt s (i + 1, 0)) j : Nat) ∧ rcs s (i + 1, 0) j = (i + 1 + j, 0) ∧ HD (a, b, cutk (rcnt s (i + 1, 0)) j, ⟨#[]⟩) (.slice q m cc) done w wo.heap.size wr) (fun _ _ k _ => 16 - (intOf k).toNat)
            case atStart => exact ⟨0, rfl, Nat.zero_le _, by go_num, by omega, rfl, HQT.out (), by have e : cutk (rcnt s (i + 1, 0)) 0 = fun _ => 0 := (by funext k; simp [cutk]); rw [e]; exact HQS.out⟩
            case round =>
              obtain ⟨j, rfl, hj, rfl, ht, rfl, hrt, hD⟩ := hrel
              have HD1 := Lib.hid hD
              have HRT := Lib.hid fun _ : Unit => hrt
              have HOF := Lib.hid (show off (rcnt s (i + 1, 0)) (j + 1) = off (rcnt s (i + 1, 0)) j + rcnt s (i + 1, 0) j from rfl)
              have hob := off_bound (rcnt s (i + 1, 0)) HCC.out j
              clear hD hrt
              by_cases hlt : j < 16
              · have HBT := Lib.hid (HBY.out (i + 1 + j))
                have r1 := read1b s (i + 1 + j) ht
                have x2 : wr.cell? ⟨wo.heap.size, 2 + j, none⟩ = some (.int .u8 0) := by rw [HD1.out.count hlt]; simp [cutk]
                have x3 := HD1.out.free (2 + j)
                have HLT := Lib.hid hlt
                generalize rby s (i + 1 + j) = N1 at *
                generalize hOO : off (rcnt s (i + 1, 0)) j = O at *
                have HO := Lib.hid hOO
                clear hOO HBY
                rcases r1 with ⟨rfl, hr⟩ | ⟨n, hn, rfl, hr, hle2⟩
                · have HE := Lib.hid fun _ : Unit => hrest_end (HRT.out ()) HLT.out hr
                  clear hr
                  go_wp2_with (go_at_call 55; refine (HBT.out _).mono ?_; rintro e w5 ⟨rfl, rfl⟩)
                  go_ret2
                  have hF := HRL.out.failH HGO.out (HIQ.out ()) (rneed_stop (HE.out ()) (by decide)) (by decide)
                  exact ⟨.inr ⟨by rw [hF]; decide, by rw [hF]; rfl⟩, HD1.out.low⟩
                · have HR := Lib.hid fun _ : Unit => rcs_next (HRT.out ()) hr
                  clear hr
                  go_wp2_with (go_at_call 55; refine (HBT.out _).mono ?_; rintro e w5 ⟨rfl, rfl⟩)
                  go_roundw
                  case rel =>
                    obtain ⟨r2, r3⟩ := HR.out ()
                    refine ⟨j + 1, by go_num, by omega, by go_num, by omega, by rw [HOF.out, r2]; go_num, by rw [r3]; rfl, ?_⟩
                    have := HD1.out.set (cellsH_count (a : Int) (b : Int) (rcnt s (i + 1, 0)) j HLT.out ⟨#[]⟩)
                    rw [r2] at this
                    exact this
                  case measure => simp [intOf]; omega
              · have hj16 : j = 16 := by omega
                have hq1 : rcs s (i + 1, 0) 16 = (i + 1 + j, 0) := by rw [← hj16]; exact HRT.out ()
                have HQ1 := Lib.hid fun _ : Unit => hq1
                have HD2 : Hid (HD (a, b, rcnt s (i + 1, 0), ⟨#[]⟩) (.slice q m cc) done w wo.heap.size wr) := by
                  have := HD1.out
                  rw [hj16] at this
                  refine ⟨this.own, ?_, this.low, this.new, this.apart⟩
                  rw [this.tab, cellsH_all]
                have HO16 := Lib.hid fun _ : Unit => (show off (rcnt s (i + 1, 0)) 16 = off (rcnt s (i + 1, 0)) j by rw [hj16])
                have hob2 : off (rcnt s (i + 1, 0)) j ≤ 4080 := by omega
                have hlt' : ¬ (j : Int) < 16 := by omega
                generalize off (rcnt s (i + 1, 0)) j = O at *
                have hip : i + 1 ≤ i + 1 + j := Nat.le_add_right _ _
                generalize i + 1 + j = p at *
                have x1 := HD2.out.text
                have x3 := HD2.out.free 18
                clear hq1 hj16 hob HOF HBY HQT HQS HRT HD1 hlt
                by_cases hsh : s.size - p < O
                · have hx : (s.size : Int) - (p : Int) < (O : Int) := by omega
                  have HE := Lib.hid fun _ : Unit => hrest_short (HQ1.out ()) (by rw [HO16.out ()]; exact hsh)
                  clear hsh
                  go_wp2
                  go_ret2
                  have hF := HRL.out.failH HGO.out (HIQ.out ()) (rneed_stop (HE.out ()) (by decide)) (by decide)
                  exact ⟨.inr ⟨by rw [hF]; decide, by rw [hF]; rfl⟩, HD2.out.low⟩
                · have hx : ¬ (s.size : Int) - (p : Int) < (O : Int) := by omega
                  have hpo : p + O ≤ s.size := by omega
                  have hpo2 : (p : Int) + (O : Int) ≤ (s.size : Int) := by omega
                  have hx1 : ((p : Int) + (O : Int)).toNat = p + O := by omega
                  have hye := hrest_yes (HQ1.out ()) (by rw [HO16.out ()]; exact hsh)
                  rw [HO16.out ()] at hye
                  have hT : (s.extract p (p + O)).size ≤ 70000 := by rw [ByteArray.size_extract]; omega
                  have HCD := Lib.hid fun x => Codes_any (rcnt s (i + 1, 0)) HCC.out (s.extract p (p + O)) hT x
                  have HIQ2 := HIQ.out ()
                  rw [hye] at HIQ2
                  have HIQ3 := Lib.hid fun _ : Unit => HIQ2
                  have HD3 := Lib.hid (HD2.out.set (i := 18) (u := .string (s.extract p (p + O))) (cellsH_text (a : Int) (b : Int) (rcnt s (i + 1, 0)) ⟨#[]⟩ (s.extract p (p + O))))
                  clear hsh hye HIQ HIQ2 hT
                  have x18 := HD3.out.text
                  by_cases hRt : Right (rcnt s (i + 1, 0)) (s.extract p (p + O)).data.toList
                  · have HCY : Hid (∀ x, Calls Tryd.prog 57 #[.agg (cnt (rcnt s (i + 1, 0))), .string (s.extract p (p + O))] x fun e w' => ∃ v, e = .returned (.tuple #[v, .bool true]) ∧ Below x.heap.size x w') := fun x => (HCD.out x).mono fun e w' h => by
                      rcases h.1 with ⟨_, v, h1, _⟩ | ⟨h1, _⟩
                      · exact ⟨v, h1, h.2⟩
                      · exact absurd hRt h1
                    obtain ⟨f', hN⟩ := HRL.out.nextH HGO.out (HIQ3.out ()) (show rneed (rightB (rcnt s (i + 1, 0)) (s.extract p (p + O)).data.toList) 5 (p + O, 0) = (p + O, 0) by rw [(rightB_iff _ _).2 hRt]; exact rneed_yes) hpo
                    have HN := Lib.hid hN
                    obtain ⟨X, hX⟩ : ∃ X : HT, X = (((a : Nat) : Int), ((b : Nat) : Int), rcnt s (i + 1, 0), s.extract p (p + O)) := ⟨_, rfl⟩
                    have HD5 := HD3.out
                    rw [← hX] at HN HD5
                    have HD4 := Lib.hid HD5
                    have hdl := HLEN.out
                    clear hX hN hRt HCD HD5 HIQ3
                    go_wp2_with (first
                      | refine wpList_load_at rfl 71 _ rfl Tryd.underlying71 rfl wo.heap.size 2 rfl (cnt (rcnt s (i + 1, 0))) (size22 _) HD3.out.row ?_
                      | (go_at_call 57; refine (HCY.out _).mono ?_; rintro e w4 ⟨v4, rfl, hb⟩; have HB4 := Lib.hid hb; have HD6 := Lib.hid (HD4.out.frame hb); clear hb HCY)
                      | refine wpList_load_row rfl 73 _ rfl wo.heap.size rfl 73 _ (0, 0) _ HD6.out.tab Tryd.underlying73 rfl (size73 _) ?_
                      | refine wpList_bsR _ _ info73 (by decide) (by decide) Tryd.underlying34 rfl _ rfl (cellsH X) (cellsH_size _) rfl ?_
                      | (at_builtin; refine wpList_appR cellsH_size cellsH_one _ _ info73 (cellsH_size (0, 0, fun _ => 0, ⟨#[]⟩)) (by decide) (by decide) Tryd.underlying34 rfl _ _ rfl w.heap.size (.slice q m cc) done X rfl w4.heap.size rfl rfl HD6.out.own (by omega) HD6.out.low.size ?_; intro v5 w5 ho hb hk; have HO5 := Lib.hid ho; have HB5 := Lib.hid hb; clear ho hb hk))
                    go_roundw
                    case rel => exact ⟨f', _, (p + O, 0), HN.out, by go_num, HO5.out, HD6.out.low.trans HB5.out⟩
                    case measure => simp [intOf]; omega
                  · have HCY : Hid (∀ x, Calls Tryd.prog 57 #[.agg (cnt (rcnt s (i + 1, 0))), .string (s.extract p (p + O))] x fun e w' => e = .returned (.tuple #[.slice none 0 0, .bool false]) ∧ Below x.heap.size x w') := fun x => (HCD.out x).mono fun e w' h => by
                      rcases h.1 with ⟨h1, _⟩ | ⟨_, h1⟩
                      · exact absurd h1 hRt
                      · exact ⟨h1, h.2⟩
                    have hrb : rightB (rcnt s (i + 1, 0)) (s.extract p (p + O)).data.toList = false := by
                      cases hb : rightB (rcnt s (i + 1, 0)) (s.extract p (p + O)).data.toList
                      · rfl
                      · exact absurd ((rightB_iff _ _).1 hb) hRt
                    have HF := Lib.hid (HRL.out.failH HGO.out (HIQ3.out ()) (show (rneed (rightB (rcnt s (i + 1, 0)) (s.extract p (p + O)).data.toList) 5 (p + O, 0)).2 = 5 by rw [hrb, rneed_no rfl]) (by decide))
                    clear hrb hRt HCD HIQ3
                    go_wp2_with (first
                      | refine wpList_load_at rfl 71 _ rfl Tryd.underlying71 rfl wo.heap.size 2 rfl (cnt (rcnt s (i + 1, 0))) (size22 _) HD3.out.row ?_
                      | (go_at_call 57; refine (HCY.out _).mono ?_; rintro e w4 ⟨rfl, hb⟩; have HB4 := Lib.hid hb; have HD6 := Lib.hid (HD3.out.frame hb); clear hb HCY))
                    go_ret2
                    exact ⟨.inr ⟨by rw [HF.out]; decide, by rw [HF.out]; rfl⟩, HD6.out.low⟩
      · have hF := HRL.out.fail HGO.out (by rw [rhuff_out hin hle]; decide)
        rw [rhuff_out hin hle] at hF
        have HF := Lib.hid hF
        have e0 : rby s i = -1 := by unfold rby; rw [dif_neg hin]
        rw [e0] at HBI
        clear hF HBY hgo e0 hin
        rcases c0 with c0 | ⟨c0, c1⟩
        all_goals
          go_wp2_with (go_at_call 55; refine (HBI.out _).mono ?_; rintro e w2 ⟨rfl, rfl⟩)
          go_ret2
          exact ⟨.inr ⟨by rw [HF.out]; decide, by rw [HF.out]; rfl⟩, HB.out⟩
    · have h0 : i ≠ 0 := fun h => hgo (.inl h)
      have h1 : ¬ i < s.size := fun h => hgo (.inr h)
      obtain ⟨d1, d2⟩ := HRL.out.stop h0 h1
      have HDD := Lib.hid d1
      have HE := Lib.hid d2
      have c0 : ((i : Int) == 0) = false := by rw [beq_eq_false_iff_ne]; omega
      have c1 : ¬ (i : Int) < (s.size : Int) := by omega
      clear hgo h0 h1 d1 d2 HBY
      go_wp2
      go_ret2
      exact ⟨.inl ⟨HE.out, _, rfl, by rw [HDD.out]; exact HOW.out⟩, HB.out⟩
end Go.Proofs.YtfohgocdabgbgaaDoor
