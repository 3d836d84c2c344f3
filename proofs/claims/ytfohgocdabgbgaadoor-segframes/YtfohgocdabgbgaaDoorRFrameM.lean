/- The document's frame's beginning: plainly; the walk. -/
import Derived.Test.YtfohgocdabgbgaaDoorRSeg
import Derived.Test.YtfohgocdabgbgaaDoorRHuff
import Derived.Test.YtfohgocdabgbgaaDoorSFrame
namespace Go.Proofs.YtfohgocdabgbgaaDoor
open Go.RowKit

/-! The document's frame's beginning: plainly; the walk. -/
theorem rpart_err {s : ByteArray} {p : Nat × Nat} (h : p.2 ≠ 0) : (rpart s p).2 = p := by
  unfold rpart
  simp only []
  rw [rnum_err h, rpair_err h, rneed_err h, rnum_err h, rneed_err h]
section
variable {s : ByteArray} {q : Nat × Nat} {k t a b d : Nat} {l : List PT}
theorem rps_err {e : Nat} (h : (rps s q k).2.2 = e) (he : e ≠ 0) : (rps s q (k + 1)).2 = (rps s q k).2 := by
  have h0 : (rps s q k).2.2 ≠ 0 := by rw [h]; exact he
  show rneed _ 7 (rpart s (rps s q k).2).2 = _
  rw [rpart_err h0, rneed_err h0]
theorem rps_stop {e : Nat} (h : (rps s q k).2.2 = e) (he : e ≠ 0) : ∀ K, k ≤ K → (rps s q K).2.2 = e := by
  intro K hK
  induction K with
  | zero => rw [Nat.le_zero.1 hK] at h; exact h
  | succ K ih =>
    by_cases e1 : k = K + 1
    · rw [← e1]; exact h
    · have := ih (by omega)
      rw [rps_err this he]
      exact this
theorem rps_bad {e : Nat} (h : rps s q k = (l, (t, 0))) (hp : (rpart s (t, 0)).2.2 = e) (he : e ≠ 0) : (rps s q (k + 1)).2.2 = e := by
  show (rneed _ 7 (rpart s (rps s q k).2).2).2 = e
  rw [h]
  exact rneed_stop hp he
theorem rpart_1 (hn : rnum s 1 (t, 0) = (0, (t, 4))) : (rpart s (t, 0)).2.2 = 4 := by
  unfold rpart
  simp only []
  rw [hn, rpair_err (by show (4:Nat) ≠ 0; decide), rneed_err (by show (4:Nat) ≠ 0; decide), rnum_err (by show (4:Nat) ≠ 0; decide), rneed_err (by show (4:Nat) ≠ 0; decide)]
theorem rpart_2 (hn : rnum s 1 (t, 0) = (a, (t + 1, 0))) (hb : rnum s 1 (t + 1, 0) = (0, (t + 1, 4))) : (rpart s (t, 0)).2.2 = 4 := by
  unfold rpart
  simp only []
  rw [hn, rpair_out hb, rneed_err (by show (4:Nat) ≠ 0; decide), rnum_err (by show (4:Nat) ≠ 0; decide), rneed_err (by show (4:Nat) ≠ 0; decide)]
theorem ok14 (x y : Nat) : ((decide (1 ≤ x) && decide (x ≤ 4)) && (decide (1 ≤ y) && decide (y ≤ 4))) = decide (1 ≤ x ∧ x ≤ 4 ∧ 1 ≤ y ∧ y ≤ 4) := by
  rw [Bool.eq_iff_iff]
  simp only [Bool.and_eq_true, decide_eq_true_eq]
  omega
theorem rpart_3 (hn : rnum s 1 (t, 0) = (a, (t + 1, 0))) (hb : rnum s 1 (t + 1, 0) = (b, (t + 2, 0))) (h : ¬ (1 ≤ b / 16 ∧ b / 16 ≤ 4 ∧ 1 ≤ b % 16 ∧ b % 16 ≤ 4)) : (rpart s (t, 0)).2.2 = 7 := by
  unfold rpart
  simp only []
  rw [hn, rpair_in hb]
  simp only []
  rw [ok14, decide_eq_false h, rneed_no rfl, rnum_err (by show (7:Nat) ≠ 0; decide), rneed_err (by show (7:Nat) ≠ 0; decide)]
theorem rpart_4 (hn : rnum s 1 (t, 0) = (a, (t + 1, 0))) (hb : rnum s 1 (t + 1, 0) = (b, (t + 2, 0))) (h : 1 ≤ b / 16 ∧ b / 16 ≤ 4 ∧ 1 ≤ b % 16 ∧ b % 16 ≤ 4) (hd : rnum s 1 (t + 2, 0) = (0, (t + 2, 4))) : (rpart s (t, 0)).2.2 = 4 := by
  unfold rpart
  simp only []
  rw [hn, rpair_in hb]
  simp only []
  rw [ok14, decide_eq_true h, rneed_yes, hd, rneed_err (by show (4:Nat) ≠ 0; decide)]
theorem rpart_5 (hn : rnum s 1 (t, 0) = (a, (t + 1, 0))) (hb : rnum s 1 (t + 1, 0) = (b, (t + 2, 0))) (h : 1 ≤ b / 16 ∧ b / 16 ≤ 4 ∧ 1 ≤ b % 16 ∧ b % 16 ≤ 4) (hd : rnum s 1 (t + 2, 0) = (d, (t + 3, 0))) : rpart s (t, 0) = ((a, b / 16, b % 16, d), if d ≤ 3 then (t + 3, 0) else (t + 3, 7)) := by
  unfold rpart
  simp only []
  rw [hn, rpair_in hb]
  simp only []
  rw [ok14, decide_eq_true h, rneed_yes, hd]
  simp only []
  congr 1
  by_cases h3 : d ≤ 3
  · rw [decide_eq_true h3, rneed_yes, if_pos h3]
  · rw [decide_eq_false h3, rneed_no rfl, if_neg h3]
theorem rps_dup (h : rps s q k = (l, (t, 0))) (hp : rpart s (t, 0) = ((a, b / 16, b % 16, d), (t + 3, 0))) (ha : aheadP l (a : Nat) = true) : (rps s q (k + 1)).2.2 = 7 := by
  show (rneed (!aheadP (rps s q k).1 ((rpart s (rps s q k).2).1.1 : Nat)) 7 (rpart s (rps s q k).2).2).2 = 7
  rw [h]
  show (rneed (!aheadP l ((rpart s (t, 0)).1.1 : Nat)) 7 (rpart s (t, 0)).2).2 = 7
  rw [hp]
  show (rneed (!aheadP l (a : Nat)) 7 (t + 3, 0)).2 = 7
  rw [ha, show (!true) = false from rfl, rneed_no rfl]
theorem rps_next (h : rps s q k = (l, (t, 0))) (hp : rpart s (t, 0) = ((a, b / 16, b % 16, d), (t + 3, 0))) (ha : aheadP l (a : Nat) = false) : rps s q (k + 1) = (l ++ [(((a : Nat) : Int), ((b / 16 : Nat) : Int), ((b % 16 : Nat) : Int), ((d : Nat) : Int))], (t + 3, 0)) := by
  show ((rps s q k).1 ++ [ptI (rpart s (rps s q k).2).1], rneed (!aheadP (rps s q k).1 ((rpart s (rps s q k).2).1.1 : Nat)) 7 (rpart s (rps s q k).2).2) = _
  rw [h]
  show (l ++ [ptI (rpart s (t, 0)).1], rneed (!aheadP l ((rpart s (t, 0)).1.1 : Nat)) 7 (rpart s (t, 0)).2) = _
  rw [hp]
  show (l ++ [ptI (a, b / 16, b % 16, d)], rneed (!aheadP l (a : Nat)) 7 (t + 3, 0)) = _
  rw [ha, show (!false) = true from rfl, rneed_yes]
  rfl
end
/-- The head behind the two sides. -/
def rh2 (s : ByteArray) (H W : Nat) : (Nat × Nat × Nat) × (Nat × Nat) :=
  let m := rnum s 1 (rneed (decide (H ≤ 16384) && decide (W ≤ 16384)) 11 (rneed (decide (H ≠ 0) && decide (W ≠ 0)) 7 (5, 0)))
  ((H, W, m.1), rneed (decide (m.1 ≤ 4)) 12 (rneed (decide (m.1 ≠ 0)) 7 m.2))
section
variable {s : ByteArray} {H W n : Nat}
theorem rhead_out (h : ¬ 0 < s.size) : (rhead s (0, 0)).2.2 = 4 := by
  unfold rhead
  simp only []
  have e : ∀ p : Nat × Nat, p.2 = 4 → p.2 ≠ 0 := fun p h => by rw [h]; decide
  rw [rnum_out (show s.size < 0 + 1 by omega) (Nat.zero_le _), rneed_err (e _ rfl), rnum_err (e _ rfl), rnum_err (e _ rfl), rneed_err (e _ rfl), rneed_err (e _ rfl), rnum_err (e _ rfl), rneed_err (e _ rfl), rneed_err (e _ rfl)]
theorem rhead_6 (h : 0 < s.size) (h8 : s[0].toNat ≠ 8) : (rhead s (0, 0)).2.2 = 6 := by
  unfold rhead
  simp only []
  have e : ∀ p : Nat × Nat, p.2 = 6 → p.2 ≠ 0 := fun p h => by rw [h]; decide
  rw [rnum_one' h]
  simp only []
  rw [show decide (s[0].toNat = 8) = false from decide_eq_false h8, rneed_no rfl, rnum_err (e _ rfl), rnum_err (e _ rfl), rneed_err (e _ rfl), rneed_err (e _ rfl), rnum_err (e _ rfl), rneed_err (e _ rfl), rneed_err (e _ rfl)]
theorem rhead_4 (h : 0 < s.size) (h8 : s[0].toNat = 8) (h5 : s.size < 5) : (rhead s (0, 0)).2.2 = 4 := by
  unfold rhead
  simp only []
  have e : ∀ p : Nat × Nat, p.2 = 4 → p.2 ≠ 0 := fun p h => by rw [h]; decide
  rw [rnum_one' h]
  simp only []
  rw [show decide (s[0].toNat = 8) = true from decide_eq_true h8, rneed_yes]
  by_cases h3 : s.size < 3
  · rw [rnum_out (show s.size < (0 + 1) + 2 by omega) (by omega), rnum_err (e _ rfl), rneed_err (e _ rfl), rneed_err (e _ rfl), rnum_err (e _ rfl), rneed_err (e _ rfl), rneed_err (e _ rfl)]
  · rw [rnum_two' (show (0 + 1) + 1 < s.size by omega)]
    simp only []
    rw [rnum_out (show s.size < (0 + 1 + 2) + 2 by omega) (by omega), rneed_err (e _ rfl), rneed_err (e _ rfl), rnum_err (e _ rfl), rneed_err (e _ rfl), rneed_err (e _ rfl)]
theorem rhead_in (h : 4 < s.size) (h8 : s[0].toNat = 8) : rhead s (0, 0) = rh2 s (s[1].toNat * 256 + s[2].toNat) (s[3].toNat * 256 + s[4].toNat) := by
  unfold rhead rh2
  simp only []
  rw [rnum_one' (show 0 < s.size by omega)]
  simp only []
  rw [show decide (s[0].toNat = 8) = true from decide_eq_true h8, rneed_yes, rnum_two' (show (0 + 1) + 1 < s.size by omega)]
  simp only []
  rw [rnum_two' (show (0 + 1 + 2) + 1 < s.size by omega)]
theorem rh2_0 (h : H = 0 ∨ W = 0) : (rh2 s H W).2.2 = 7 := by
  unfold rh2
  simp only []
  have e : ∀ p : Nat × Nat, p.2 = 7 → p.2 ≠ 0 := fun p h => by rw [h]; decide
  rw [show (decide (H ≠ 0) && decide (W ≠ 0)) = false by rw [Bool.and_eq_false_iff, decide_eq_false_iff_not, decide_eq_false_iff_not]; omega, rneed_no rfl, rneed_err (e _ rfl), rnum_err (e _ rfl), rneed_err (e _ rfl), rneed_err (e _ rfl)]
theorem rh2_11 (h0 : H ≠ 0) (w0 : W ≠ 0) (h : 16384 < H ∨ 16384 < W) : (rh2 s H W).2.2 = 11 := by
  unfold rh2
  simp only []
  have e : ∀ p : Nat × Nat, p.2 = 11 → p.2 ≠ 0 := fun p h => by rw [h]; decide
  rw [show (decide (H ≠ 0) && decide (W ≠ 0)) = true by rw [decide_eq_true h0, decide_eq_true w0]; rfl, rneed_yes, show (decide (H ≤ 16384) && decide (W ≤ 16384)) = false by rw [Bool.and_eq_false_iff, decide_eq_false_iff_not, decide_eq_false_iff_not]; omega, rneed_no rfl, rnum_err (e _ rfl), rneed_err (e _ rfl), rneed_err (e _ rfl)]
theorem rh2_yes (h0 : H ≠ 0) (w0 : W ≠ 0) (h1 : H ≤ 16384) (w1 : W ≤ 16384) : rh2 s H W = ((H, W, (rnum s 1 (5, 0)).1), rneed (decide ((rnum s 1 (5, 0)).1 ≤ 4)) 12 (rneed (decide ((rnum s 1 (5, 0)).1 ≠ 0)) 7 (rnum s 1 (5, 0)).2)) := by
  unfold rh2
  simp only []
  rw [show (decide (H ≠ 0) && decide (W ≠ 0)) = true by rw [decide_eq_true h0, decide_eq_true w0]; rfl, rneed_yes, show (decide (H ≤ 16384) && decide (W ≤ 16384)) = true by rw [decide_eq_true h1, decide_eq_true w1]; rfl, rneed_yes]
theorem rh2_4 (h0 : H ≠ 0) (w0 : W ≠ 0) (h1 : H ≤ 16384) (w1 : W ≤ 16384) (hn : rnum s 1 (5, 0) = (0, (5, 4))) : (rh2 s H W).2.2 = 4 := by
  rw [rh2_yes h0 w0 h1 w1, hn]
  rfl
theorem rh2_7 (h0 : H ≠ 0) (w0 : W ≠ 0) (h1 : H ≤ 16384) (w1 : W ≤ 16384) (hn : rnum s 1 (5, 0) = (0, (6, 0))) : (rh2 s H W).2.2 = 7 := by
  rw [rh2_yes h0 w0 h1 w1, hn]
  rfl
theorem rh2_12 (h0 : H ≠ 0) (w0 : W ≠ 0) (h1 : H ≤ 16384) (w1 : W ≤ 16384) (hn : rnum s 1 (5, 0) = (n, (6, 0))) (h4 : 4 < n) : (rh2 s H W).2.2 = 12 := by
  rw [rh2_yes h0 w0 h1 w1, hn]
  show (rneed (decide (n ≤ 4)) 12 (rneed (decide (n ≠ 0)) 7 (6, 0))).2 = 12
  rw [show decide (n ≠ 0) = true from decide_eq_true (by omega), rneed_yes, show decide (n ≤ 4) = false from decide_eq_false (by omega), rneed_no rfl]
theorem rh2_ok (h0 : H ≠ 0) (w0 : W ≠ 0) (h1 : H ≤ 16384) (w1 : W ≤ 16384) (hn : rnum s 1 (5, 0) = (n, (6, 0))) (hn0 : n ≠ 0) (h4 : n ≤ 4) : rh2 s H W = ((H, W, n), (6, 0)) := by
  rw [rh2_yes h0 w0 h1 w1, hn]
  show ((H, W, n), rneed (decide (n ≤ 4)) 12 (rneed (decide (n ≠ 0)) 7 (6, 0))) = _
  rw [show decide (n ≠ 0) = true from decide_eq_true hn0, rneed_yes, show decide (n ≤ 4) = true from decide_eq_true h4, rneed_yes]
end
/-- The error of a frame's beginning that must end where the body ends. -/
def eframe (s : ByteArray) : Nat := (rneed (decide (s.size - (rframe s (0, 0)).2.1 = 0)) 4 (rframe s (0, 0)).2).2
theorem rframe_def (s : ByteArray) (p : Nat × Nat) : rframe s p = (((rhead s p).1.1, (rhead s p).1.2.1, (rps s (rhead s p).2 (rhead s p).1.2.2).1), (rps s (rhead s p).2 (rhead s p).1.2.2).2) := by
  unfold rframe
  rfl
theorem eframe_head {s : ByteArray} {e : Nat} (h : (rhead s (0, 0)).2.2 = e) (he : e ≠ 0) : eframe s = e := by
  unfold eframe
  rw [rframe_def]
  generalize rhead s (0, 0) = R at *
  exact rneed_stop (rps_stop (k := 0) h he _ (Nat.zero_le _)) he
theorem eframe_pk {s : ByteArray} {e n : Nat} {X : Nat × Nat × Nat} {p : Nat × Nat} (h : rhead s (0, 0) = (X, p)) (hn : X.2.2 = n) (hp : (rps s p n).2.2 = e) (he : e ≠ 0) : eframe s = e := by
  unfold eframe
  rw [rframe_def]
  generalize rhead s (0, 0) = R at *
  subst h
  subst hn
  exact rneed_stop hp he
theorem rframe_in {s : ByteArray} {H W n : Nat} {p : Nat × Nat} {l : List PT} {q : Nat × Nat} (h : rhead s (0, 0) = ((H, W, n), p)) (hp : rps s p n = (l, q)) : rframe s (0, 0) = ((H, W, l), q) := by
  rw [rframe_def]
  generalize rhead s (0, 0) = R at *
  subst h
  show ((H, W, (rps s p n).1), (rps s p n).2) = _
  rw [hp]
/-! The document's frame's beginning: the walk. -/
theorem size79 (x : PT) : (Tryd.prog.info? 79).map (·.size) = some (cellsP x).size := by
  show _ = some 4
  kernel_rfl
/-- As wpList_fresh, the world told last: at another operation it fails at once. -/
theorem wpList_freshE {ops : Array Oper} {rest : List Oper} {o : Oper} {a : Act} {W : World} {Q : Exit → Act → World → Prop} (hgd : o.guard = none) (ty : TypeId) (x y : Operand) (ho : o.op = .store ty x y) (w : World) (old : Array Value) (hW : W = w.alloc (.cells old ty))
    (cs : Array Value) (hx : a.eval x = .pointer (some ⟨w.heap.size, 0, none⟩)) (hy : a.eval y = .agg cs) (hi : (Tryd.prog.info? ty).map (·.size) = some cs.size) (hold : old.size = cs.size) (h1 : cs.all (·.oneCell') = true)
    (h : ∀ w', w'.heap[w.heap.size]? = some (.cells cs ty (0, 0)) → Below w.heap.size w w' → wpList Tryd.prog ops Q rest (a.put o.dst undef) w') : wpList Tryd.prog ops Q (o :: rest) a W := by
  subst hW
  exact wpList_fresh hgd ty x y ho cs old hx hy hi hold h1 h
/-- What the document's reading of a frame's beginning answers. -/
def FramePost (z : Int) (s : ByteArray) (w : World) (e : Ending) (w' : World) : Prop :=
  ((eframe s = 0 ∧ ∃ u, e = .returned (.tuple #[.agg (sg z ((rframe s (0, 0)).1.1 : Nat) ((rframe s (0, 0)).1.2.1 : Nat) u (.slice none 0 0) 0 0 0 0), .int .i64 0]) ∧ OwnR 79 4 cellsP w.heap.size u (rframe s (0, 0)).1.2.2 w') ∨ (eframe s ≠ 0 ∧ ∃ sc : Array Value, sc.size = 13 ∧ sc.all (·.oneCell') = true ∧ e = .returned (.tuple #[.agg sc, .int .i64 (eframe s : Nat)]))) ∧ Below w.heap.size w w'

set_option maxRecDepth 100000 in
set_option maxHeartbeats 16000000 in
theorem frame_any (z : Int) (s : ByteArray) (hs : s.size ≤ 65533) (w : World) :
    Calls Tryd.prog 38 #[.agg (sg z 0 0 (.slice none 0 0) (.slice none 0 0) 0 0 0 0), .string s] w fun e w' => FramePost z s w e w' := by
  have HBY := Lib.hid fun p (z : Int) (hz : z = (p : Nat)) x => (show Calls Tryd.prog 55 #[.string s, .int .i64 z] x fun e w' => e = .returned (.int .i64 (rby s p)) ∧ x = w' from by rw [hz]; exact byteAt_any s p x)
  have HPN := Lib.hid fun x => (show Calls Tryd.prog 55 #[.string s, .int .i64 5] x fun e w' => e = .returned (.int .i64 (rby s 5)) ∧ x = w' from byteAt_any s 5 x)
  have HPA := Lib.hid fun x => (show Calls Tryd.prog 37 #[.string s, .int .i64 1] x fun e w' => e = .returned (.int .i64 (rby2 s 1)) ∧ Below x.heap.size x w' from pairAt_any s 1 (by unfold maxLen; omega) x)
  have HPB := Lib.hid fun x => (show Calls Tryd.prog 37 #[.string s, .int .i64 3] x fun e w' => e = .returned (.int .i64 (rby2 s 3)) ∧ Below x.heap.size x w' from pairAt_any s 3 (by unfold maxLen; omega) x)
  have HB0 : Hid (∀ Z : Array Value, Z.size = 13 → ∀ x, x = (w.alloc (.cells (sg z 0 0 (.slice none 0 0) (.slice none 0 0) 0 0 0 0) 38)).alloc (.cells Z 38) → Calls Tryd.prog 55 #[.string s, .int .i64 0] x fun e w' => e = .returned (.int .i64 (rby s 0)) ∧ SG 79 4 cellsP (sg z 0 0 (.slice none 0 0) (.slice none 0 0) 0 0 0 0) (.slice none 0 0) [] w w') := by
    intro Z hZ x hx
    refine (byteAt_any s 0 x).mono ?_
    rintro e w' ⟨h1, rfl⟩
    refine ⟨h1, ?_⟩
    rw [hx]
    exact SG.start _ _ hZ
  go_enter Tryd.func38, Tryd.ntmps38
  by_cases h0 : 0 < s.size
  · by_cases h8 : s[0].toNat = 8
    · have e0 : rby s 0 = 8 := by unfold rby; rw [dif_pos h0, h8]; rfl
      rw [e0] at HB0
      clear e0
      by_cases h5 : s.size < 5
      · have HE := Lib.hid fun _ : Unit => eframe_head (rhead_4 h0 h8 h5) (by decide)
        have h3 : rby2 s 3 = -1 := by unfold rby2; rw [if_neg (by omega)]
        have h1 : rby2 s 1 < 0 ∨ (¬ rby2 s 1 < 0 ∧ rby2 s 3 < 0) := by
          by_cases h3' : s.size < 3
          · left; unfold rby2; rw [if_neg (by omega)]; decide
          · right
            have a1 := s[1].toNat_lt
            unfold rby2 rby
            rw [if_pos (by omega), if_neg (by omega), dif_pos (show 1 < s.size by omega), dif_pos (show 1 + 1 < s.size by omega)]
            constructor
            · omega
            · decide
        generalize rby2 s 1 = N1 at *
        generalize rby2 s 3 = N2 at *
        clear h3 h5 h8 HBY HPN
        rcases h1 with h1 | ⟨h1, h2⟩
        · skip
          go_wp2_with (first
            | (go_at_call 55; refine (HB0.out _ (by kernel_rfl) _ rfl).mono ?_; rintro e w2 ⟨rfl, h⟩; have H1 := Lib.hid h; clear h HB0)
            | (go_at_call 37; refine (HPA.out _).mono ?_; rintro e w3 ⟨rfl, hb⟩; have H2 := Lib.hid (H1.out.frame hb); clear hb HPA H1)
            | (refine wpList_setS H2.out (by decide) rfl _ _ rfl rfl 4 N1 (sg z N1 0 (.slice none 0 0) (.slice none 0 0) 0 0 0 0) (sg_set4 _ _ _ _ _ _ _ _ _ _) _ (sg_get4 _ _ _ _ _ _ _ _ _) rfl rfl ?_; intro wa4 ha; have H3 := Lib.hid ha; clear ha H2)
            | (go_at_call 37; refine (HPB.out _).mono ?_; rintro e w5 ⟨rfl, hb⟩; have H4 := Lib.hid (H3.out.frame hb); clear hb HPB H3)
            | (refine wpList_setS H4.out (by decide) rfl _ _ rfl rfl 5 N2 (sg z N1 N2 (.slice none 0 0) (.slice none 0 0) 0 0 0 0) (sg_set5 _ _ _ _ _ _ _ _ _ _) _ (sg_get5 _ _ _ _ _ _ _ _ _) rfl rfl ?_; intro wa5 ha; have y4 : wa5.cell? ⟨w.heap.size, 4, none⟩ = some (.int .i64 N1) := (ha.get 4).trans (sg_get4 _ _ _ _ _ _ _ _ _); have y5 : wa5.cell? ⟨w.heap.size, 5, none⟩ = some (.int .i64 N2) := (ha.get 5).trans (sg_get5 _ _ _ _ _ _ _ _ _); have H5 := Lib.hid ha; clear ha H4)
            | refine wpList_load_row rfl 38 _ rfl w.heap.size rfl 38 _ (0, 0) _ H5.out.seg Tryd.underlying38 rfl (size38 _ rfl) ?_
            | (refine wpList_retS H5.out rfl (sg_one _ _ _ _ _ _ _ _ _ _ _ _ _) rfl _ _ rfl rfl rfl ?_; intro wf hf ho hb; have HFF := Lib.hid hf; have HOF := Lib.hid ho; have HBF := Lib.hid hb; clear hf ho hb))
          refine bodyPost_ret_by (results_row_tmp rfl _ _ (w.heap.size + 1) _ rfl (run_loadVar_row _ (w.heap.size + 1) 38 38 _ (0, 0) _ HFF.out Tryd.underlying38 rfl (size38 _ rfl)) _ rfl) rfl ⟨.inr ⟨by rw [HE.out ()]; decide, _, rfl, sg_one _ _ _ _ _ _ _ _ _ _ _ _ _, by rw [HE.out ()]; rfl⟩, HBF.out⟩
        · skip
          go_wp2_with (first
            | (go_at_call 55; refine (HB0.out _ (by kernel_rfl) _ rfl).mono ?_; rintro e w2 ⟨rfl, h⟩; have H1 := Lib.hid h; clear h HB0)
            | (go_at_call 37; refine (HPA.out _).mono ?_; rintro e w3 ⟨rfl, hb⟩; have H2 := Lib.hid (H1.out.frame hb); clear hb HPA H1)
            | (refine wpList_setS H2.out (by decide) rfl _ _ rfl rfl 4 N1 (sg z N1 0 (.slice none 0 0) (.slice none 0 0) 0 0 0 0) (sg_set4 _ _ _ _ _ _ _ _ _ _) _ (sg_get4 _ _ _ _ _ _ _ _ _) rfl rfl ?_; intro wa4 ha; have H3 := Lib.hid ha; clear ha H2)
            | (go_at_call 37; refine (HPB.out _).mono ?_; rintro e w5 ⟨rfl, hb⟩; have H4 := Lib.hid (H3.out.frame hb); clear hb HPB H3)
            | (refine wpList_setS H4.out (by decide) rfl _ _ rfl rfl 5 N2 (sg z N1 N2 (.slice none 0 0) (.slice none 0 0) 0 0 0 0) (sg_set5 _ _ _ _ _ _ _ _ _ _) _ (sg_get5 _ _ _ _ _ _ _ _ _) rfl rfl ?_; intro wa5 ha; have y4 : wa5.cell? ⟨w.heap.size, 4, none⟩ = some (.int .i64 N1) := (ha.get 4).trans (sg_get4 _ _ _ _ _ _ _ _ _); have y5 : wa5.cell? ⟨w.heap.size, 5, none⟩ = some (.int .i64 N2) := (ha.get 5).trans (sg_get5 _ _ _ _ _ _ _ _ _); have H5 := Lib.hid ha; clear ha H4)
            | refine wpList_load_row rfl 38 _ rfl w.heap.size rfl 38 _ (0, 0) _ H5.out.seg Tryd.underlying38 rfl (size38 _ rfl) ?_
            | (refine wpList_retS H5.out rfl (sg_one _ _ _ _ _ _ _ _ _ _ _ _ _) rfl _ _ rfl rfl rfl ?_; intro wf hf ho hb; have HFF := Lib.hid hf; have HOF := Lib.hid ho; have HBF := Lib.hid hb; clear hf ho hb))
          refine bodyPost_ret_by (results_row_tmp rfl _ _ (w.heap.size + 1) _ rfl (run_loadVar_row _ (w.heap.size + 1) 38 38 _ (0, 0) _ HFF.out Tryd.underlying38 rfl (size38 _ rfl)) _ rfl) rfl ⟨.inr ⟨by rw [HE.out ()]; decide, _, rfl, sg_one _ _ _ _ _ _ _ _ _ _ _ _ _, by rw [HE.out ()]; rfl⟩, HBF.out⟩
      · have hR := rhead_in (s := s) (by omega) h8
        have b1 := s[1].toNat_lt
        have b2 := s[2].toNat_lt
        have b3 := s[3].toNat_lt
        have b4 := s[4].toNat_lt
        have p1 : rby2 s 1 = ((s[1].toNat * 256 + s[2].toNat : Nat) : Int) := by
          unfold rby2 rby
          rw [if_pos (by omega), dif_pos (show 1 < s.size by omega), dif_pos (show 1 + 1 < s.size by omega)]
          show ((s[1].toNat : Nat) : Int) * 256 + ((s[2].toNat : Nat) : Int) = _
          omega
        have p3 : rby2 s 3 = ((s[3].toNat * 256 + s[4].toNat : Nat) : Int) := by
          unfold rby2 rby
          rw [if_pos (by omega), dif_pos (show 3 < s.size by omega), dif_pos (show 3 + 1 < s.size by omega)]
          show ((s[3].toNat : Nat) : Int) * 256 + ((s[4].toNat : Nat) : Int) = _
          omega
        rw [p1] at HPA
        rw [p3] at HPB
        have hHb : s[1].toNat * 256 + s[2].toNat < 65536 := by omega
        have hWb : s[3].toNat * 256 + s[4].toNat < 65536 := by omega
        have HR := Lib.hid fun _ : Unit => hR
        have h5' : 5 ≤ s.size := by omega
        clear p1 p3 b1 b2 b3 b4 hR
        generalize s[1].toNat * 256 + s[2].toNat = H at *
        generalize s[3].toNat * 256 + s[4].toNat = W at *
        clear h5 h8
        by_cases c1 : H = 0
        · have HE := Lib.hid fun _ : Unit => eframe_head (e := 7) (by rw [HR.out ()]; exact rh2_0 (.inl c1)) (by decide)
          have d1 : (((H : Nat) : Int) == 0) = true := by rw [beq_iff_eq]; omega
          clear c1 HBY HPN
          go_wp2_with (first
            | (go_at_call 55; refine (HB0.out _ (by kernel_rfl) _ rfl).mono ?_; rintro e w2 ⟨rfl, h⟩; have H1 := Lib.hid h; clear h HB0)
            | (go_at_call 37; refine (HPA.out _).mono ?_; rintro e w3 ⟨rfl, hb⟩; have H2 := Lib.hid (H1.out.frame hb); clear hb HPA H1)
            | (refine wpList_setS H2.out (by decide) rfl _ _ rfl rfl 4 ((H : Nat) : Int) (sg z ((H : Nat) : Int) 0 (.slice none 0 0) (.slice none 0 0) 0 0 0 0) (sg_set4 _ _ _ _ _ _ _ _ _ _) _ (sg_get4 _ _ _ _ _ _ _ _ _) rfl rfl ?_; intro wa4 ha; have H3 := Lib.hid ha; clear ha H2)
            | (go_at_call 37; refine (HPB.out _).mono ?_; rintro e w5 ⟨rfl, hb⟩; have H4 := Lib.hid (H3.out.frame hb); clear hb HPB H3)
            | (refine wpList_setS H4.out (by decide) rfl _ _ rfl rfl 5 ((W : Nat) : Int) (sg z ((H : Nat) : Int) ((W : Nat) : Int) (.slice none 0 0) (.slice none 0 0) 0 0 0 0) (sg_set5 _ _ _ _ _ _ _ _ _ _) _ (sg_get5 _ _ _ _ _ _ _ _ _) rfl rfl ?_; intro wa5 ha; have y4 : wa5.cell? ⟨w.heap.size, 4, none⟩ = some (.int .i64 ((H : Nat) : Int)) := (ha.get 4).trans (sg_get4 _ _ _ _ _ _ _ _ _); have y5 : wa5.cell? ⟨w.heap.size, 5, none⟩ = some (.int .i64 ((W : Nat) : Int)) := (ha.get 5).trans (sg_get5 _ _ _ _ _ _ _ _ _); have H5 := Lib.hid ha; clear ha H4)
            | refine wpList_load_row rfl 38 _ rfl w.heap.size rfl 38 _ (0, 0) _ H5.out.seg Tryd.underlying38 rfl (size38 _ rfl) ?_
            | (refine wpList_retS H5.out rfl (sg_one _ _ _ _ _ _ _ _ _ _ _ _ _) rfl _ _ rfl rfl rfl ?_; intro wf hf ho hb; have HFF := Lib.hid hf; have HOF := Lib.hid ho; have HBF := Lib.hid hb; clear hf ho hb))
          refine bodyPost_ret_by (results_row_tmp rfl _ _ (w.heap.size + 1) _ rfl (run_loadVar_row _ (w.heap.size + 1) 38 38 _ (0, 0) _ HFF.out Tryd.underlying38 rfl (size38 _ rfl)) _ rfl) rfl ⟨.inr ⟨by rw [HE.out ()]; decide, _, rfl, sg_one _ _ _ _ _ _ _ _ _ _ _ _ _, by rw [HE.out ()]; rfl⟩, HBF.out⟩
        · have d1 : (((H : Nat) : Int) == 0) = false := by rw [beq_eq_false_iff_ne]; omega
          by_cases c2 : W = 0
          · have HE := Lib.hid fun _ : Unit => eframe_head (e := 7) (by rw [HR.out ()]; exact rh2_0 (.inr c2)) (by decide)
            have d2 : (((W : Nat) : Int) == 0) = true := by rw [beq_iff_eq]; omega
            clear c1 c2 HBY HPN
            go_wp2_with (first
              | (go_at_call 55; refine (HB0.out _ (by kernel_rfl) _ rfl).mono ?_; rintro e w2 ⟨rfl, h⟩; have H1 := Lib.hid h; clear h HB0)
              | (go_at_call 37; refine (HPA.out _).mono ?_; rintro e w3 ⟨rfl, hb⟩; have H2 := Lib.hid (H1.out.frame hb); clear hb HPA H1)
              | (refine wpList_setS H2.out (by decide) rfl _ _ rfl rfl 4 ((H : Nat) : Int) (sg z ((H : Nat) : Int) 0 (.slice none 0 0) (.slice none 0 0) 0 0 0 0) (sg_set4 _ _ _ _ _ _ _ _ _ _) _ (sg_get4 _ _ _ _ _ _ _ _ _) rfl rfl ?_; intro wa4 ha; have H3 := Lib.hid ha; clear ha H2)
              | (go_at_call 37; refine (HPB.out _).mono ?_; rintro e w5 ⟨rfl, hb⟩; have H4 := Lib.hid (H3.out.frame hb); clear hb HPB H3)
              | (refine wpList_setS H4.out (by decide) rfl _ _ rfl rfl 5 ((W : Nat) : Int) (sg z ((H : Nat) : Int) ((W : Nat) : Int) (.slice none 0 0) (.slice none 0 0) 0 0 0 0) (sg_set5 _ _ _ _ _ _ _ _ _ _) _ (sg_get5 _ _ _ _ _ _ _ _ _) rfl rfl ?_; intro wa5 ha; have y4 : wa5.cell? ⟨w.heap.size, 4, none⟩ = some (.int .i64 ((H : Nat) : Int)) := (ha.get 4).trans (sg_get4 _ _ _ _ _ _ _ _ _); have y5 : wa5.cell? ⟨w.heap.size, 5, none⟩ = some (.int .i64 ((W : Nat) : Int)) := (ha.get 5).trans (sg_get5 _ _ _ _ _ _ _ _ _); have H5 := Lib.hid ha; clear ha H4)
              | refine wpList_load_row rfl 38 _ rfl w.heap.size rfl 38 _ (0, 0) _ H5.out.seg Tryd.underlying38 rfl (size38 _ rfl) ?_
              | (refine wpList_retS H5.out rfl (sg_one _ _ _ _ _ _ _ _ _ _ _ _ _) rfl _ _ rfl rfl rfl ?_; intro wf hf ho hb; have HFF := Lib.hid hf; have HOF := Lib.hid ho; have HBF := Lib.hid hb; clear hf ho hb))
            refine bodyPost_ret_by (results_row_tmp rfl _ _ (w.heap.size + 1) _ rfl (run_loadVar_row _ (w.heap.size + 1) 38 38 _ (0, 0) _ HFF.out Tryd.underlying38 rfl (size38 _ rfl)) _ rfl) rfl ⟨.inr ⟨by rw [HE.out ()]; decide, _, rfl, sg_one _ _ _ _ _ _ _ _ _ _ _ _ _, by rw [HE.out ()]; rfl⟩, HBF.out⟩
          · have d2 : (((W : Nat) : Int) == 0) = false := by rw [beq_eq_false_iff_ne]; omega
            by_cases c3 : 16384 < H
            · have HE := Lib.hid fun _ : Unit => eframe_head (e := 11) (by rw [HR.out ()]; exact rh2_11 c1 c2 (.inl c3)) (by decide)
              clear c1 c2 HBY HPN
              go_wp2_with (first
                | (go_at_call 55; refine (HB0.out _ (by kernel_rfl) _ rfl).mono ?_; rintro e w2 ⟨rfl, h⟩; have H1 := Lib.hid h; clear h HB0)
                | (go_at_call 37; refine (HPA.out _).mono ?_; rintro e w3 ⟨rfl, hb⟩; have H2 := Lib.hid (H1.out.frame hb); clear hb HPA H1)
                | (refine wpList_setS H2.out (by decide) rfl _ _ rfl rfl 4 ((H : Nat) : Int) (sg z ((H : Nat) : Int) 0 (.slice none 0 0) (.slice none 0 0) 0 0 0 0) (sg_set4 _ _ _ _ _ _ _ _ _ _) _ (sg_get4 _ _ _ _ _ _ _ _ _) rfl rfl ?_; intro wa4 ha; have H3 := Lib.hid ha; clear ha H2)
                | (go_at_call 37; refine (HPB.out _).mono ?_; rintro e w5 ⟨rfl, hb⟩; have H4 := Lib.hid (H3.out.frame hb); clear hb HPB H3)
                | (refine wpList_setS H4.out (by decide) rfl _ _ rfl rfl 5 ((W : Nat) : Int) (sg z ((H : Nat) : Int) ((W : Nat) : Int) (.slice none 0 0) (.slice none 0 0) 0 0 0 0) (sg_set5 _ _ _ _ _ _ _ _ _ _) _ (sg_get5 _ _ _ _ _ _ _ _ _) rfl rfl ?_; intro wa5 ha; have y4 : wa5.cell? ⟨w.heap.size, 4, none⟩ = some (.int .i64 ((H : Nat) : Int)) := (ha.get 4).trans (sg_get4 _ _ _ _ _ _ _ _ _); have y5 : wa5.cell? ⟨w.heap.size, 5, none⟩ = some (.int .i64 ((W : Nat) : Int)) := (ha.get 5).trans (sg_get5 _ _ _ _ _ _ _ _ _); have H5 := Lib.hid ha; clear ha H4)
                | refine wpList_load_row rfl 38 _ rfl w.heap.size rfl 38 _ (0, 0) _ H5.out.seg Tryd.underlying38 rfl (size38 _ rfl) ?_
                | (refine wpList_retS H5.out rfl (sg_one _ _ _ _ _ _ _ _ _ _ _ _ _) rfl _ _ rfl rfl rfl ?_; intro wf hf ho hb; have HFF := Lib.hid hf; have HOF := Lib.hid ho; have HBF := Lib.hid hb; clear hf ho hb))
              refine bodyPost_ret_by (results_row_tmp rfl _ _ (w.heap.size + 1) _ rfl (run_loadVar_row _ (w.heap.size + 1) 38 38 _ (0, 0) _ HFF.out Tryd.underlying38 rfl (size38 _ rfl)) _ rfl) rfl ⟨.inr ⟨by rw [HE.out ()]; decide, _, rfl, sg_one _ _ _ _ _ _ _ _ _ _ _ _ _, by rw [HE.out ()]; rfl⟩, HBF.out⟩
            · by_cases c4 : 16384 < W
              · have HE := Lib.hid fun _ : Unit => eframe_head (e := 11) (by rw [HR.out ()]; exact rh2_11 c1 c2 (.inr c4)) (by decide)
                clear c1 c2 HBY HPN
                go_wp2_with (first
                  | (go_at_call 55; refine (HB0.out _ (by kernel_rfl) _ rfl).mono ?_; rintro e w2 ⟨rfl, h⟩; have H1 := Lib.hid h; clear h HB0)
                  | (go_at_call 37; refine (HPA.out _).mono ?_; rintro e w3 ⟨rfl, hb⟩; have H2 := Lib.hid (H1.out.frame hb); clear hb HPA H1)
                  | (refine wpList_setS H2.out (by decide) rfl _ _ rfl rfl 4 ((H : Nat) : Int) (sg z ((H : Nat) : Int) 0 (.slice none 0 0) (.slice none 0 0) 0 0 0 0) (sg_set4 _ _ _ _ _ _ _ _ _ _) _ (sg_get4 _ _ _ _ _ _ _ _ _) rfl rfl ?_; intro wa4 ha; have H3 := Lib.hid ha; clear ha H2)
                  | (go_at_call 37; refine (HPB.out _).mono ?_; rintro e w5 ⟨rfl, hb⟩; have H4 := Lib.hid (H3.out.frame hb); clear hb HPB H3)
                  | (refine wpList_setS H4.out (by decide) rfl _ _ rfl rfl 5 ((W : Nat) : Int) (sg z ((H : Nat) : Int) ((W : Nat) : Int) (.slice none 0 0) (.slice none 0 0) 0 0 0 0) (sg_set5 _ _ _ _ _ _ _ _ _ _) _ (sg_get5 _ _ _ _ _ _ _ _ _) rfl rfl ?_; intro wa5 ha; have y4 : wa5.cell? ⟨w.heap.size, 4, none⟩ = some (.int .i64 ((H : Nat) : Int)) := (ha.get 4).trans (sg_get4 _ _ _ _ _ _ _ _ _); have y5 : wa5.cell? ⟨w.heap.size, 5, none⟩ = some (.int .i64 ((W : Nat) : Int)) := (ha.get 5).trans (sg_get5 _ _ _ _ _ _ _ _ _); have H5 := Lib.hid ha; clear ha H4)
                  | refine wpList_load_row rfl 38 _ rfl w.heap.size rfl 38 _ (0, 0) _ H5.out.seg Tryd.underlying38 rfl (size38 _ rfl) ?_
                  | (refine wpList_retS H5.out rfl (sg_one _ _ _ _ _ _ _ _ _ _ _ _ _) rfl _ _ rfl rfl rfl ?_; intro wf hf ho hb; have HFF := Lib.hid hf; have HOF := Lib.hid ho; have HBF := Lib.hid hb; clear hf ho hb))
                refine bodyPost_ret_by (results_row_tmp rfl _ _ (w.heap.size + 1) _ rfl (run_loadVar_row _ (w.heap.size + 1) 38 38 _ (0, 0) _ HFF.out Tryd.underlying38 rfl (size38 _ rfl)) _ rfl) rfl ⟨.inr ⟨by rw [HE.out ()]; decide, _, rfl, sg_one _ _ _ _ _ _ _ _ _ _ _ _ _, by rw [HE.out ()]; rfl⟩, HBF.out⟩
              · have r5 := read1b s 5 h5'
                have HC1 := Lib.hid c1
                have HC2 := Lib.hid c2
                have hc3 : H ≤ 16384 := by omega
                have hc4 : W ≤ 16384 := by omega
                have HC3 := Lib.hid hc3
                have HC4 := Lib.hid hc4
                clear c1 c2 c3 c4
                rcases r5 with ⟨hN, hr⟩ | ⟨n, hn, hN, hr, hle5⟩
                · rw [hN] at HPN
                  have HE := Lib.hid fun _ : Unit => eframe_head (e := 4) (by rw [HR.out ()]; exact rh2_4 HC1.out HC2.out HC3.out HC4.out hr) (by decide)
                  clear hr hN HBY
                  go_wp2_with (first
                    | (go_at_call 55; refine (HB0.out _ (by kernel_rfl) _ rfl).mono ?_; rintro e w2 ⟨rfl, h⟩; have H1 := Lib.hid h; clear h HB0)
                    | (go_at_call 37; refine (HPA.out _).mono ?_; rintro e w3 ⟨rfl, hb⟩; have H2 := Lib.hid (H1.out.frame hb); clear hb HPA H1)
                    | (refine wpList_setS H2.out (by decide) rfl _ _ rfl rfl 4 ((H : Nat) : Int) (sg z ((H : Nat) : Int) 0 (.slice none 0 0) (.slice none 0 0) 0 0 0 0) (sg_set4 _ _ _ _ _ _ _ _ _ _) _ (sg_get4 _ _ _ _ _ _ _ _ _) rfl rfl ?_; intro wa4 ha; have H3 := Lib.hid ha; clear ha H2)
                    | (go_at_call 37; refine (HPB.out _).mono ?_; rintro e w5 ⟨rfl, hb⟩; have H4 := Lib.hid (H3.out.frame hb); clear hb HPB H3)
                    | (refine wpList_setS H4.out (by decide) rfl _ _ rfl rfl 5 ((W : Nat) : Int) (sg z ((H : Nat) : Int) ((W : Nat) : Int) (.slice none 0 0) (.slice none 0 0) 0 0 0 0) (sg_set5 _ _ _ _ _ _ _ _ _ _) _ (sg_get5 _ _ _ _ _ _ _ _ _) rfl rfl ?_; intro wa5 ha; have y4 : wa5.cell? ⟨w.heap.size, 4, none⟩ = some (.int .i64 ((H : Nat) : Int)) := (ha.get 4).trans (sg_get4 _ _ _ _ _ _ _ _ _); have y5 : wa5.cell? ⟨w.heap.size, 5, none⟩ = some (.int .i64 ((W : Nat) : Int)) := (ha.get 5).trans (sg_get5 _ _ _ _ _ _ _ _ _); have H5 := Lib.hid ha; clear ha H4)
                    | (go_at_call 55; refine (HPN.out _).mono ?_; rintro e w6 ⟨rfl, rfl⟩; clear HPN)
                    | refine wpList_load_row rfl 38 _ rfl w.heap.size rfl 38 _ (0, 0) _ H5.out.seg Tryd.underlying38 rfl (size38 _ rfl) ?_
                    | (refine wpList_retS H5.out rfl (sg_one _ _ _ _ _ _ _ _ _ _ _ _ _) rfl _ _ rfl rfl rfl ?_; intro wf hf ho hb; have HFF := Lib.hid hf; have HOF := Lib.hid ho; have HBF := Lib.hid hb; clear hf ho hb))
                  refine bodyPost_ret_by (results_row_tmp rfl _ _ (w.heap.size + 1) _ rfl (run_loadVar_row _ (w.heap.size + 1) 38 38 _ (0, 0) _ HFF.out Tryd.underlying38 rfl (size38 _ rfl)) _ rfl) rfl ⟨.inr ⟨by rw [HE.out ()]; decide, _, rfl, sg_one _ _ _ _ _ _ _ _ _ _ _ _ _, by rw [HE.out ()]; rfl⟩, HBF.out⟩
                · rw [hN] at HPN
                  clear hN
                  by_cases n0 : n = 0
                  · subst n0
                    have HE := Lib.hid fun _ : Unit => eframe_head (e := 7) (by rw [HR.out ()]; exact rh2_7 HC1.out HC2.out HC3.out HC4.out hr) (by decide)
                    clear hr HBY
                    go_wp2_with (first
                      | (go_at_call 55; refine (HB0.out _ (by kernel_rfl) _ rfl).mono ?_; rintro e w2 ⟨rfl, h⟩; have H1 := Lib.hid h; clear h HB0)
                      | (go_at_call 37; refine (HPA.out _).mono ?_; rintro e w3 ⟨rfl, hb⟩; have H2 := Lib.hid (H1.out.frame hb); clear hb HPA H1)
                      | (refine wpList_setS H2.out (by decide) rfl _ _ rfl rfl 4 ((H : Nat) : Int) (sg z ((H : Nat) : Int) 0 (.slice none 0 0) (.slice none 0 0) 0 0 0 0) (sg_set4 _ _ _ _ _ _ _ _ _ _) _ (sg_get4 _ _ _ _ _ _ _ _ _) rfl rfl ?_; intro wa4 ha; have H3 := Lib.hid ha; clear ha H2)
                      | (go_at_call 37; refine (HPB.out _).mono ?_; rintro e w5 ⟨rfl, hb⟩; have H4 := Lib.hid (H3.out.frame hb); clear hb HPB H3)
                      | (refine wpList_setS H4.out (by decide) rfl _ _ rfl rfl 5 ((W : Nat) : Int) (sg z ((H : Nat) : Int) ((W : Nat) : Int) (.slice none 0 0) (.slice none 0 0) 0 0 0 0) (sg_set5 _ _ _ _ _ _ _ _ _ _) _ (sg_get5 _ _ _ _ _ _ _ _ _) rfl rfl ?_; intro wa5 ha; have y4 : wa5.cell? ⟨w.heap.size, 4, none⟩ = some (.int .i64 ((H : Nat) : Int)) := (ha.get 4).trans (sg_get4 _ _ _ _ _ _ _ _ _); have y5 : wa5.cell? ⟨w.heap.size, 5, none⟩ = some (.int .i64 ((W : Nat) : Int)) := (ha.get 5).trans (sg_get5 _ _ _ _ _ _ _ _ _); have H5 := Lib.hid ha; clear ha H4)
                      | (go_at_call 55; refine (HPN.out _).mono ?_; rintro e w6 ⟨rfl, rfl⟩; clear HPN)
                      | refine wpList_load_row rfl 38 _ rfl w.heap.size rfl 38 _ (0, 0) _ H5.out.seg Tryd.underlying38 rfl (size38 _ rfl) ?_
                      | (refine wpList_retS H5.out rfl (sg_one _ _ _ _ _ _ _ _ _ _ _ _ _) rfl _ _ rfl rfl rfl ?_; intro wf hf ho hb; have HFF := Lib.hid hf; have HOF := Lib.hid ho; have HBF := Lib.hid hb; clear hf ho hb))
                    refine bodyPost_ret_by (results_row_tmp rfl _ _ (w.heap.size + 1) _ rfl (run_loadVar_row _ (w.heap.size + 1) 38 38 _ (0, 0) _ HFF.out Tryd.underlying38 rfl (size38 _ rfl)) _ rfl) rfl ⟨.inr ⟨by rw [HE.out ()]; decide, _, rfl, sg_one _ _ _ _ _ _ _ _ _ _ _ _ _, by rw [HE.out ()]; rfl⟩, HBF.out⟩
                  · have d5 : (((n : Nat) : Int) == 0) = false := by rw [beq_eq_false_iff_ne]; omega
                    by_cases n4 : 4 < n
                    · have HE := Lib.hid fun _ : Unit => eframe_head (e := 12) (by rw [HR.out ()]; exact rh2_12 HC1.out HC2.out HC3.out HC4.out hr n4) (by decide)
                      clear hr HBY n0
                      go_wp2_with (first
                        | (go_at_call 55; refine (HB0.out _ (by kernel_rfl) _ rfl).mono ?_; rintro e w2 ⟨rfl, h⟩; have H1 := Lib.hid h; clear h HB0)
                        | (go_at_call 37; refine (HPA.out _).mono ?_; rintro e w3 ⟨rfl, hb⟩; have H2 := Lib.hid (H1.out.frame hb); clear hb HPA H1)
                        | (refine wpList_setS H2.out (by decide) rfl _ _ rfl rfl 4 ((H : Nat) : Int) (sg z ((H : Nat) : Int) 0 (.slice none 0 0) (.slice none 0 0) 0 0 0 0) (sg_set4 _ _ _ _ _ _ _ _ _ _) _ (sg_get4 _ _ _ _ _ _ _ _ _) rfl rfl ?_; intro wa4 ha; have H3 := Lib.hid ha; clear ha H2)
                        | (go_at_call 37; refine (HPB.out _).mono ?_; rintro e w5 ⟨rfl, hb⟩; have H4 := Lib.hid (H3.out.frame hb); clear hb HPB H3)
                        | (refine wpList_setS H4.out (by decide) rfl _ _ rfl rfl 5 ((W : Nat) : Int) (sg z ((H : Nat) : Int) ((W : Nat) : Int) (.slice none 0 0) (.slice none 0 0) 0 0 0 0) (sg_set5 _ _ _ _ _ _ _ _ _ _) _ (sg_get5 _ _ _ _ _ _ _ _ _) rfl rfl ?_; intro wa5 ha; have y4 : wa5.cell? ⟨w.heap.size, 4, none⟩ = some (.int .i64 ((H : Nat) : Int)) := (ha.get 4).trans (sg_get4 _ _ _ _ _ _ _ _ _); have y5 : wa5.cell? ⟨w.heap.size, 5, none⟩ = some (.int .i64 ((W : Nat) : Int)) := (ha.get 5).trans (sg_get5 _ _ _ _ _ _ _ _ _); have H5 := Lib.hid ha; clear ha H4)
                        | (go_at_call 55; refine (HPN.out _).mono ?_; rintro e w6 ⟨rfl, rfl⟩; clear HPN)
                        | refine wpList_load_row rfl 38 _ rfl w.heap.size rfl 38 _ (0, 0) _ H5.out.seg Tryd.underlying38 rfl (size38 _ rfl) ?_
                        | (refine wpList_retS H5.out rfl (sg_one _ _ _ _ _ _ _ _ _ _ _ _ _) rfl _ _ rfl rfl rfl ?_; intro wf hf ho hb; have HFF := Lib.hid hf; have HOF := Lib.hid ho; have HBF := Lib.hid hb; clear hf ho hb))
                      refine bodyPost_ret_by (results_row_tmp rfl _ _ (w.heap.size + 1) _ rfl (run_loadVar_row _ (w.heap.size + 1) 38 38 _ (0, 0) _ HFF.out Tryd.underlying38 rfl (size38 _ rfl)) _ rfl) rfl ⟨.inr ⟨by rw [HE.out ()]; decide, _, rfl, sg_one _ _ _ _ _ _ _ _ _ _ _ _ _, by rw [HE.out ()]; rfl⟩, HBF.out⟩
                    · have hrh := (HR.out ()).trans (rh2_ok HC1.out HC2.out HC3.out HC4.out hr n0 (by omega))
                      have HPK := Lib.hid fun e hp he => eframe_pk (e := e) hrh rfl hp he
                      have HFI := Lib.hid fun l q hp => rframe_in (l := l) (q := q) hrh hp
                      have hn4 : n ≤ 4 := by omega
                      clear hrh hr HR n0 n4
                      go_wp2_with (first
                        | (go_at_call 55; refine (HB0.out _ (by kernel_rfl) _ rfl).mono ?_; rintro e w2 ⟨rfl, h⟩; have H1 := Lib.hid h; clear h HB0)
                        | (go_at_call 37; refine (HPA.out _).mono ?_; rintro e w3 ⟨rfl, hb⟩; have H2 := Lib.hid (H1.out.frame hb); clear hb HPA H1)
                        | (refine wpList_setS H2.out (by decide) rfl _ _ rfl rfl 4 ((H : Nat) : Int) (sg z ((H : Nat) : Int) 0 (.slice none 0 0) (.slice none 0 0) 0 0 0 0) (sg_set4 _ _ _ _ _ _ _ _ _ _) _ (sg_get4 _ _ _ _ _ _ _ _ _) rfl rfl ?_; intro wa4 ha; have H3 := Lib.hid ha; clear ha H2)
                        | (go_at_call 37; refine (HPB.out _).mono ?_; rintro e w5 ⟨rfl, hb⟩; have H4 := Lib.hid (H3.out.frame hb); clear hb HPB H3)
                        | (refine wpList_setS H4.out (by decide) rfl _ _ rfl rfl 5 ((W : Nat) : Int) (sg z ((H : Nat) : Int) ((W : Nat) : Int) (.slice none 0 0) (.slice none 0 0) 0 0 0 0) (sg_set5 _ _ _ _ _ _ _ _ _ _) _ (sg_get5 _ _ _ _ _ _ _ _ _) rfl rfl ?_; intro wa5 ha; have y4 : wa5.cell? ⟨w.heap.size, 4, none⟩ = some (.int .i64 ((H : Nat) : Int)) := (ha.get 4).trans (sg_get4 _ _ _ _ _ _ _ _ _); have y5 : wa5.cell? ⟨w.heap.size, 5, none⟩ = some (.int .i64 ((W : Nat) : Int)) := (ha.get 5).trans (sg_get5 _ _ _ _ _ _ _ _ _); have H5 := Lib.hid ha; clear ha H4)
                        | (go_at_call 55; refine (HPN.out _).mono ?_; rintro e w6 ⟨rfl, rfl⟩; clear HPN))
                      clear d1 d2 d5 y4 y5
                      go_loopw [8] (fun kv wr => ∃ k : Nat, kv = .int .i64 k ∧ k ≤ n ∧ ∃ l p m c, rps s (6, 0) k = (l, (6 + 3 * k, 0)) ∧ l.length = k ∧ 6 + 3 * k ≤ s.size ∧ SG 79 4 cellsP (sg z ((H : Nat) : Int) ((W : Nat) : Int) (.slice p m c) (.slice none 0 0) 0 0 0 0) (.slice p m c) l w wr) (fun kv _ => 4 - (intOf kv).toNat)
                      case atStart => exact ⟨0, rfl, Nat.zero_le _, [], none, 0, 0, rfl, rfl, hle5, H5.out⟩
                      case round =>
                        obtain ⟨k, rfl, hk, l, p, m, c, hpk, hl, hle, hS⟩ := hrel
                        have HS := Lib.hid hS
                        have HP := Lib.hid fun _ : Unit => hpk
                        have HL := Lib.hid hl
                        have HV := Lib.hid (hS.own.view cellsP_size)
                        clear hS hpk H5
                        by_cases hlt : k < n
                        · have HLT := Lib.hid hlt
                          have HA := Lib.hid fun (z : Int) (hz : z = ((6 + 3 * k : Nat) : Int)) x => HBY.out _ z hz x
                          have HB := Lib.hid fun (z : Int) (hz : z = ((6 + 3 * k + 1 : Nat) : Int)) x => HBY.out _ z hz x
                          have HC := Lib.hid fun (z : Int) (hz : z = ((6 + 3 * k + 2 : Nat) : Int)) x => HBY.out _ z hz x
                          have r1 := read1b s (6 + 3 * k) hle
                          have HR2 := Lib.hid fun h => read1b s (6 + 3 * k + 1) h
                          have HR3 := Lib.hid fun h => read1b s (6 + 3 * k + 2) h
                          generalize rby s (6 + 3 * k) = N1 at *
                          generalize rby s (6 + 3 * k + 1) = N2 at *
                          generalize rby s (6 + 3 * k + 2) = N3 at *
                          clear HBY HFI
                          rcases r1 with ⟨rfl, hr1⟩ | ⟨a, hab, rfl, hr1, hle1⟩
                          · have HE := Lib.hid fun _ : Unit => HPK.out 4 (rps_stop (rps_bad (HP.out ()) (rpart_1 hr1) (by decide)) (by decide) n HLT.out) (by decide)
                            clear hr1 HPK HR2 HR3
                            go_wp2_with (first
                              | (go_at_call 55; refine (HA.out _ (by omega) _).mono ?_; rintro e w2 ⟨rfl, rfl⟩; clear HA)
                              | (go_at_call 55; refine (HB.out _ (by omega) _).mono ?_; rintro e w2 ⟨rfl, rfl⟩; clear HB)
                              | (go_at_call 55; refine (HC.out _ (by omega) _).mono ?_; rintro e w2 ⟨rfl, rfl⟩; clear HC)
                              | refine wpList_load_row rfl 38 _ rfl w.heap.size rfl 38 _ (0, 0) _ HS.out.seg Tryd.underlying38 rfl (size38 _ rfl) ?_
                              | (refine wpList_retS HS.out rfl (sg_one _ _ _ _ _ _ _ _ _ _ _ _ _) rfl _ _ rfl rfl rfl ?_; intro wf hf ho hb; have HFF := Lib.hid hf; have HOF := Lib.hid ho; have HBF := Lib.hid hb; clear hf ho hb))
                            refine bodyPost_ret_by (results_row_tmp rfl _ _ (w.heap.size + 1) _ rfl (run_loadVar_row _ (w.heap.size + 1) 38 38 _ (0, 0) _ HFF.out Tryd.underlying38 rfl (size38 _ rfl)) _ rfl) rfl ⟨.inr ⟨by rw [HE.out ()]; decide, _, rfl, sg_one _ _ _ _ _ _ _ _ _ _ _ _ _, by rw [HE.out ()]; rfl⟩, HBF.out⟩
                          · have HQ1 := Lib.hid fun _ : Unit => hr1
                            rcases HR2.out hle1 with ⟨hN2, hr2⟩ | ⟨b, hbb, hN2, hr2, hle2⟩
                            · subst hN2
                              have HE := Lib.hid fun _ : Unit => HPK.out 4 (rps_stop (rps_bad (HP.out ()) (rpart_2 (HQ1.out ()) hr2) (by decide)) (by decide) n HLT.out) (by decide)
                              clear hr1 hr2 HPK HR2 HR3
                              go_wp2_with (first
                                | (go_at_call 55; refine (HA.out _ (by omega) _).mono ?_; rintro e w2 ⟨rfl, rfl⟩; clear HA)
                                | (go_at_call 55; refine (HB.out _ (by omega) _).mono ?_; rintro e w2 ⟨rfl, rfl⟩; clear HB)
                                | (go_at_call 55; refine (HC.out _ (by omega) _).mono ?_; rintro e w2 ⟨rfl, rfl⟩; clear HC)
                                | refine wpList_load_row rfl 38 _ rfl w.heap.size rfl 38 _ (0, 0) _ HS.out.seg Tryd.underlying38 rfl (size38 _ rfl) ?_
                                | (refine wpList_retS HS.out rfl (sg_one _ _ _ _ _ _ _ _ _ _ _ _ _) rfl _ _ rfl rfl rfl ?_; intro wf hf ho hb; have HFF := Lib.hid hf; have HOF := Lib.hid ho; have HBF := Lib.hid hb; clear hf ho hb))
                              refine bodyPost_ret_by (results_row_tmp rfl _ _ (w.heap.size + 1) _ rfl (run_loadVar_row _ (w.heap.size + 1) 38 38 _ (0, 0) _ HFF.out Tryd.underlying38 rfl (size38 _ rfl)) _ rfl) rfl ⟨.inr ⟨by rw [HE.out ()]; decide, _, rfl, sg_one _ _ _ _ _ _ _ _ _ _ _ _ _, by rw [HE.out ()]; rfl⟩, HBF.out⟩
                            · subst hN2
                              have HQ2 := Lib.hid fun _ : Unit => hr2
                              have r3 := HR3.out (by omega)
                              have HR4 := Lib.hid r3
                              have e1 : (b : Int).tdiv 16 = ((b / 16 : Nat) : Int) := rfl
                              have e2 : (b : Int).tmod 16 = ((b % 16 : Nat) : Int) := rfl
                              have hq1 : b / 16 < 16 := by omega
                              have hq2 : b % 16 < 16 := by omega
                              clear hr1 hr2 r3 HR2 HR3
                              by_cases hok : 1 ≤ b / 16 ∧ b / 16 ≤ 4 ∧ 1 ≤ b % 16 ∧ b % 16 ≤ 4
                              · have HOK := Lib.hid hok
                                obtain ⟨o1, o2, o3, o4⟩ := hok
                                have HB16 := Lib.hid fun _ : Unit => (rfl : b / 16 = b / 16)
                                obtain ⟨x, hx⟩ : ∃ x, x = b / 16 := ⟨_, rfl⟩
                                obtain ⟨y, hy⟩ : ∃ y, y = b % 16 := ⟨_, rfl⟩
                                rw [← hx] at e1 hq1 o1 o2
                                rw [← hy] at e2 hq2 o3 o4
                                have HX := Lib.hid fun _ : Unit => hx
                                have HY := Lib.hid fun _ : Unit => hy
                                clear hx hy HB16
                                rcases HR4.out with ⟨hN3, hr3⟩ | ⟨d, hdb, hN3, hr3, hle3⟩
                                · subst hN3
                                  have HE := Lib.hid fun _ : Unit => HPK.out 4 (rps_stop (rps_bad (HP.out ()) (rpart_4 (HQ1.out ()) (HQ2.out ()) HOK.out hr3) (by decide)) (by decide) n HLT.out) (by decide)
                                  clear hr3 HPK HR4
                                  go_wp2_with (first
                                    | (go_at_call 55; refine (HA.out _ (by omega) _).mono ?_; rintro e w2 ⟨rfl, rfl⟩; clear HA)
                                    | (go_at_call 55; refine (HB.out _ (by omega) _).mono ?_; rintro e w2 ⟨rfl, rfl⟩; clear HB)
                                    | (go_at_call 55; refine (HC.out _ (by omega) _).mono ?_; rintro e w2 ⟨rfl, rfl⟩; clear HC)
                                    | (refine wpList_freshE rfl 79 _ _ rfl wr _ rfl (cellsP (((a : Nat) : Int), ((x : Nat) : Int), ((y : Nat) : Int), (-1))) rfl rfl (size79 _) rfl (cellsP_one _) ?_; intro wp hp hbp; have HPX := Lib.hid hp; have HS2 := Lib.hid (HS.out.frame hbp); have x1 : wp.cell? ⟨wr.heap.size, 1, none⟩ = some (.int .i64 ((x : Nat) : Int)) := Lib.cell_of_heap hp 1; have x2 : wp.cell? ⟨wr.heap.size, 2, none⟩ = some (.int .i64 ((y : Nat) : Int)) := Lib.cell_of_heap hp 2; have x6 : wp.cell? ⟨w.heap.size, 6, none⟩ = some (.slice p m c) := HS2.out.get 6; clear hp hbp HS)
                                    | refine wpList_load_row rfl 38 _ rfl w.heap.size rfl 38 _ (0, 0) _ HS2.out.seg Tryd.underlying38 rfl (size38 _ rfl) ?_
                                    | (refine wpList_retS HS2.out rfl (sg_one _ _ _ _ _ _ _ _ _ _ _ _ _) rfl _ _ rfl rfl rfl ?_; intro wf hf ho hb; have HFF := Lib.hid hf; have HOF := Lib.hid ho; have HBF := Lib.hid hb; clear hf ho hb))
                                  refine bodyPost_ret_by (results_row_tmp rfl _ _ (w.heap.size + 1) _ rfl (run_loadVar_row _ (w.heap.size + 1) 38 38 _ (0, 0) _ HFF.out Tryd.underlying38 rfl (size38 _ rfl)) _ rfl) rfl ⟨.inr ⟨by rw [HE.out ()]; decide, _, rfl, sg_one _ _ _ _ _ _ _ _ _ _ _ _ _, by rw [HE.out ()]; rfl⟩, HBF.out⟩
                                · subst hN3
                                  have HQ3 := Lib.hid fun _ : Unit => rpart_5 (HQ1.out ()) (HQ2.out ()) HOK.out hr3
                                  clear hr3 HR4
                                  by_cases d3 : 3 < d
                                  · have HE := Lib.hid fun _ : Unit => HPK.out 7 (rps_stop (rps_bad (HP.out ()) (by rw [HQ3.out (), if_neg (by omega)]) (by decide)) (by decide) n HLT.out) (by decide)
                                    clear HPK
                                    go_wp2_with (first
                                      | (go_at_call 55; refine (HA.out _ (by omega) _).mono ?_; rintro e w2 ⟨rfl, rfl⟩; clear HA)
                                      | (go_at_call 55; refine (HB.out _ (by omega) _).mono ?_; rintro e w2 ⟨rfl, rfl⟩; clear HB)
                                      | (go_at_call 55; refine (HC.out _ (by omega) _).mono ?_; rintro e w2 ⟨rfl, rfl⟩; clear HC)
                                      | (refine wpList_freshE rfl 79 _ _ rfl wr _ rfl (cellsP (((a : Nat) : Int), ((x : Nat) : Int), ((y : Nat) : Int), ((d : Nat) : Int))) rfl rfl (size79 _) rfl (cellsP_one _) ?_; intro wp hp hbp; have HPX := Lib.hid hp; have HS2 := Lib.hid (HS.out.frame hbp); have x1 : wp.cell? ⟨wr.heap.size, 1, none⟩ = some (.int .i64 ((x : Nat) : Int)) := Lib.cell_of_heap hp 1; have x2 : wp.cell? ⟨wr.heap.size, 2, none⟩ = some (.int .i64 ((y : Nat) : Int)) := Lib.cell_of_heap hp 2; have x6 : wp.cell? ⟨w.heap.size, 6, none⟩ = some (.slice p m c) := HS2.out.get 6; clear hp hbp HS)
                                      | refine wpList_load_row rfl 38 _ rfl w.heap.size rfl 38 _ (0, 0) _ HS2.out.seg Tryd.underlying38 rfl (size38 _ rfl) ?_
                                      | (refine wpList_retS HS2.out rfl (sg_one _ _ _ _ _ _ _ _ _ _ _ _ _) rfl _ _ rfl rfl rfl ?_; intro wf hf ho hb; have HFF := Lib.hid hf; have HOF := Lib.hid ho; have HBF := Lib.hid hb; clear hf ho hb))
                                    refine bodyPost_ret_by (results_row_tmp rfl _ _ (w.heap.size + 1) _ rfl (run_loadVar_row _ (w.heap.size + 1) 38 38 _ (0, 0) _ HFF.out Tryd.underlying38 rfl (size38 _ rfl)) _ rfl) rfl ⟨.inr ⟨by rw [HE.out ()]; decide, _, rfl, sg_one _ _ _ _ _ _ _ _ _ _ _ _ _, by rw [HE.out ()]; rfl⟩, HBF.out⟩
                                  · have HQ4 := Lib.hid fun _ : Unit => (HQ3.out ()).trans (by rw [if_pos (show d ≤ 3 by omega)])
                                    clear HQ3
                                    go_wp2_with (first
                                      | (go_at_call 55; refine (HA.out _ (by omega) _).mono ?_; rintro e w2 ⟨rfl, rfl⟩; clear HA)
                                      | (go_at_call 55; refine (HB.out _ (by omega) _).mono ?_; rintro e w2 ⟨rfl, rfl⟩; clear HB)
                                      | (go_at_call 55; refine (HC.out _ (by omega) _).mono ?_; rintro e w2 ⟨rfl, rfl⟩; clear HC)
                                      | (refine wpList_freshE rfl 79 _ _ rfl wr _ rfl (cellsP (((a : Nat) : Int), ((x : Nat) : Int), ((y : Nat) : Int), ((d : Nat) : Int))) rfl rfl (size79 _) rfl (cellsP_one _) ?_; intro wp hp hbp; have HPX := Lib.hid hp; have HS2 := Lib.hid (HS.out.frame hbp); have x1 : wp.cell? ⟨wr.heap.size, 1, none⟩ = some (.int .i64 ((x : Nat) : Int)) := Lib.cell_of_heap hp 1; have x2 : wp.cell? ⟨wr.heap.size, 2, none⟩ = some (.int .i64 ((y : Nat) : Int)) := Lib.cell_of_heap hp 2; have x6 : wp.cell? ⟨w.heap.size, 6, none⟩ = some (.slice p m c) := HS2.out.get 6; clear hp hbp HS))
                                    clear e1 e2 x1 x2
                                    go_loop [13] (fun jv => ∃ j : Nat, jv = .int .i64 j ∧ j ≤ k ∧ ∀ i (h : i < l.length), i < j → l[i].1 ≠ (a : Int)) (fun jv => 4 - (intOf jv).toNat)
                                    case atStart => exact ⟨0, rfl, Nat.zero_le _, fun i _ h => by omega⟩
                                    case round =>
                                      obtain ⟨j, rfl, hj, hne⟩ := hrel
                                      have HNE := Lib.hid hne
                                      clear hne
                                      by_cases hjk : j < k
                                      · have hjl : j < l.length := by rw [HL.out]; exact hjk
                                        obtain ⟨b', o', cc, hv, _, hc⟩ := (HS2.out.own.view cellsP_size).lies (by omega)
                                        simp only [Value.slice.injEq] at hv
                                        obtain ⟨rfl, rfl, rfl⟩ := hv
                                        have y0 := (part_cells hc hjl).1
                                        have hjm : (j : Int) < (l.length : Int) := by omega
                                        have hkl := HL.out
                                        have HDUP := Lib.hid fun h : l[j].1 = (a : Int) => (show aheadP l (a : Nat) = true from List.any_eq_true.2 ⟨l[j], List.getElem_mem hjl, by rw [beq_iff_eq]; exact h⟩)
                                        have HNE2 := Lib.hid fun (h : l[j].1 ≠ (a : Int)) => (show ∀ i (h : i < l.length), i < j + 1 → l[i].1 ≠ (a : Int) from fun i hi hi2 => by
                                          by_cases e : i = j
                                          · subst e; exact h
                                          · exact HNE.out i hi (by omega))
                                        generalize hvv : l[j].1 = v at *
                                        clear hc hvv
                                        by_cases hd : v = (a : Int)
                                        · have HE := Lib.hid fun _ : Unit => HPK.out 7 (rps_stop (rps_dup (HP.out ()) (HQ4.out ()) (HDUP.out hd)) (by decide) n HLT.out) (by decide)
                                          have hd' : (v == (a : Int)) = true := by rw [beq_iff_eq]; exact hd
                                          clear hd HDUP HNE2 HPK hkl
                                          go_wp2_with (first
                                            | refine wpList_load_row rfl 38 _ rfl w.heap.size rfl 38 _ (0, 0) _ HS2.out.seg Tryd.underlying38 rfl (size38 _ rfl) ?_
                                            | (refine wpList_retS HS2.out rfl (sg_one _ _ _ _ _ _ _ _ _ _ _ _ _) rfl _ _ rfl rfl rfl ?_; intro wf hf ho hb; have HFF := Lib.hid hf; have HOF := Lib.hid ho; have HBF := Lib.hid hb; clear hf ho hb))
                                          refine bodyPost_ret_by (results_row_tmp rfl _ _ (w.heap.size + 1) _ rfl (run_loadVar_row _ (w.heap.size + 1) 38 38 _ (0, 0) _ HFF.out Tryd.underlying38 rfl (size38 _ rfl)) _ rfl) rfl ⟨.inr ⟨by rw [HE.out ()]; decide, _, rfl, sg_one _ _ _ _ _ _ _ _ _ _ _ _ _, by rw [HE.out ()]; rfl⟩, HBF.out⟩
                                        · have hd' : (v == (a : Int)) = false := by rw [beq_eq_false_iff_ne]; exact hd
                                          have HN3 := Lib.hid (HNE2.out hd)
                                          clear hd HDUP HNE2 hkl
                                          go_wp2
                                          go_round
                                          case rel => exact ⟨j + 1, by go_num, by omega, HN3.out⟩
                                          case measure => simp [intOf]; omega
                                      · have hAH : aheadP l (a : Nat) = false := by
                                          rw [Bool.eq_false_iff]
                                          intro h
                                          obtain ⟨x, hx, h2⟩ := List.any_eq_true.1 h
                                          obtain ⟨i, hi, rfl⟩ := List.mem_iff_getElem.1 hx
                                          rw [beq_iff_eq] at h2
                                          exact HNE.out i hi (by have := HL.out; omega) h2
                                        have HNX := Lib.hid fun _ : Unit => rps_next (HP.out ()) (HQ4.out ()) hAH
                                        have hjk3 : ¬ (j : Int) < (k : Int) := by omega
                                        have hkl := HL.out
                                        obtain ⟨X, hX⟩ : ∃ X : PT, X = (((a : Nat) : Int), ((x : Nat) : Int), ((y : Nat) : Int), ((d : Nat) : Int)) := ⟨_, rfl⟩
                                        have HPX2 := HPX.out
                                        rw [← hX] at HPX2
                                        have HPY := Lib.hid HPX2
                                        have HXX := Lib.hid fun _ : Unit => hX
                                        have x7 := HS2.out.free 6
                                        clear hAH hjk hj HNE hX HPX2 HPX HPK
                                        go_wp2_with (first
                                          | refine wpList_load_row rfl 79 _ rfl wr.heap.size rfl 79 _ (0, 0) _ HPY.out Tryd.underlying79 rfl (size79 _) ?_
                                          | refine wpList_bsR _ _ info79 (by decide) (by decide) Tryd.underlying35 rfl _ rfl (cellsP X) (cellsP_size _) rfl ?_
                                          | (at_builtin; refine wpList_appR (cs := cellsP) (T := 79) cellsP_size cellsP_one _ _ info79 (cellsP_size _) (by decide) (by decide) Tryd.underlying35 rfl _ _ rfl w.heap.size (.slice p m c) l X rfl wp.heap.size rfl rfl HS2.out.own (by omega) HS2.out.low.size ?_; intro v4 w4 ho hb hk; have HS4 := Lib.hid (HS2.out.app (by decide) ho hb hk); obtain ⟨p4, m4, c4, rfl, _⟩ := ho.shape; have z7 : w4.cell? ⟨w.heap.size, 6, none⟩ = some (.slice p m c) := HS4.out.get 6; have z8 := HS4.out.free 6; clear ho hb hk))
                                        go_roundw
                                        case rel =>
                                          refine ⟨k + 1, by go_num, by omega, _, p4, m4, c4, HNX.out (), by simp [HL.out], by omega, ?_⟩
                                          have := HS4.out.set (i := 6) (v := .slice p4 m4 c4) (by decide) (sg_set6 _ _ _ _ _ _ _ _ _ _)
                                          rw [HXX.out (), HX.out (), HY.out ()] at this
                                          exact this
                                        case measure => simp [intOf]; omega
                              · have HE := Lib.hid fun _ : Unit => HPK.out 7 (rps_stop (rps_bad (HP.out ()) (rpart_3 (HQ1.out ()) (HQ2.out ()) hok) (by decide)) (by decide) n HLT.out) (by decide)
                                clear HPK HR4
                                obtain ⟨x, hx⟩ : ∃ x, x = b / 16 := ⟨_, rfl⟩
                                obtain ⟨y, hy⟩ : ∃ y, y = b % 16 := ⟨_, rfl⟩
                                rw [← hx] at e1 hq1 hok
                                rw [← hy] at e2 hq2 hok
                                clear hx hy
                                by_cases o1 : 1 ≤ x
                                · by_cases o2 : x ≤ 4
                                  · by_cases o3 : 1 ≤ y
                                    · have o4 : 4 < y := by omega
                                      clear hok
                                      go_wp2_with (first
                                        | (go_at_call 55; refine (HA.out _ (by omega) _).mono ?_; rintro e w2 ⟨rfl, rfl⟩; clear HA)
                                        | (go_at_call 55; refine (HB.out _ (by omega) _).mono ?_; rintro e w2 ⟨rfl, rfl⟩; clear HB)
                                        | (go_at_call 55; refine (HC.out _ (by omega) _).mono ?_; rintro e w2 ⟨rfl, rfl⟩; clear HC)
                                        | (refine wpList_freshE rfl 79 _ _ rfl wr _ rfl (cellsP (((a : Nat) : Int), ((x : Nat) : Int), ((y : Nat) : Int), N3)) rfl rfl (size79 _) rfl (cellsP_one _) ?_; intro wp hp hbp; have HPX := Lib.hid hp; have HS2 := Lib.hid (HS.out.frame hbp); have x1 : wp.cell? ⟨wr.heap.size, 1, none⟩ = some (.int .i64 ((x : Nat) : Int)) := Lib.cell_of_heap hp 1; have x2 : wp.cell? ⟨wr.heap.size, 2, none⟩ = some (.int .i64 ((y : Nat) : Int)) := Lib.cell_of_heap hp 2; have x6 : wp.cell? ⟨w.heap.size, 6, none⟩ = some (.slice p m c) := HS2.out.get 6; clear hp hbp HS)
                                        | refine wpList_load_row rfl 38 _ rfl w.heap.size rfl 38 _ (0, 0) _ HS2.out.seg Tryd.underlying38 rfl (size38 _ rfl) ?_
                                        | (refine wpList_retS HS2.out rfl (sg_one _ _ _ _ _ _ _ _ _ _ _ _ _) rfl _ _ rfl rfl rfl ?_; intro wf hf ho hb; have HFF := Lib.hid hf; have HOF := Lib.hid ho; have HBF := Lib.hid hb; clear hf ho hb))
                                      refine bodyPost_ret_by (results_row_tmp rfl _ _ (w.heap.size + 1) _ rfl (run_loadVar_row _ (w.heap.size + 1) 38 38 _ (0, 0) _ HFF.out Tryd.underlying38 rfl (size38 _ rfl)) _ rfl) rfl ⟨.inr ⟨by rw [HE.out ()]; decide, _, rfl, sg_one _ _ _ _ _ _ _ _ _ _ _ _ _, by rw [HE.out ()]; rfl⟩, HBF.out⟩
                                    · have o4 : y < 1 := by omega
                                      clear hok o3
                                      go_wp2_with (first
                                        | (go_at_call 55; refine (HA.out _ (by omega) _).mono ?_; rintro e w2 ⟨rfl, rfl⟩; clear HA)
                                        | (go_at_call 55; refine (HB.out _ (by omega) _).mono ?_; rintro e w2 ⟨rfl, rfl⟩; clear HB)
                                        | (go_at_call 55; refine (HC.out _ (by omega) _).mono ?_; rintro e w2 ⟨rfl, rfl⟩; clear HC)
                                        | (refine wpList_freshE rfl 79 _ _ rfl wr _ rfl (cellsP (((a : Nat) : Int), ((x : Nat) : Int), ((y : Nat) : Int), N3)) rfl rfl (size79 _) rfl (cellsP_one _) ?_; intro wp hp hbp; have HPX := Lib.hid hp; have HS2 := Lib.hid (HS.out.frame hbp); have x1 : wp.cell? ⟨wr.heap.size, 1, none⟩ = some (.int .i64 ((x : Nat) : Int)) := Lib.cell_of_heap hp 1; have x2 : wp.cell? ⟨wr.heap.size, 2, none⟩ = some (.int .i64 ((y : Nat) : Int)) := Lib.cell_of_heap hp 2; have x6 : wp.cell? ⟨w.heap.size, 6, none⟩ = some (.slice p m c) := HS2.out.get 6; clear hp hbp HS)
                                        | refine wpList_load_row rfl 38 _ rfl w.heap.size rfl 38 _ (0, 0) _ HS2.out.seg Tryd.underlying38 rfl (size38 _ rfl) ?_
                                        | (refine wpList_retS HS2.out rfl (sg_one _ _ _ _ _ _ _ _ _ _ _ _ _) rfl _ _ rfl rfl rfl ?_; intro wf hf ho hb; have HFF := Lib.hid hf; have HOF := Lib.hid ho; have HBF := Lib.hid hb; clear hf ho hb))
                                      refine bodyPost_ret_by (results_row_tmp rfl _ _ (w.heap.size + 1) _ rfl (run_loadVar_row _ (w.heap.size + 1) 38 38 _ (0, 0) _ HFF.out Tryd.underlying38 rfl (size38 _ rfl)) _ rfl) rfl ⟨.inr ⟨by rw [HE.out ()]; decide, _, rfl, sg_one _ _ _ _ _ _ _ _ _ _ _ _ _, by rw [HE.out ()]; rfl⟩, HBF.out⟩
                                  · have o4 : 4 < x := by omega
                                    clear hok o2
                                    go_wp2_with (first
                                      | (go_at_call 55; refine (HA.out _ (by omega) _).mono ?_; rintro e w2 ⟨rfl, rfl⟩; clear HA)
                                      | (go_at_call 55; refine (HB.out _ (by omega) _).mono ?_; rintro e w2 ⟨rfl, rfl⟩; clear HB)
                                      | (go_at_call 55; refine (HC.out _ (by omega) _).mono ?_; rintro e w2 ⟨rfl, rfl⟩; clear HC)
                                      | (refine wpList_freshE rfl 79 _ _ rfl wr _ rfl (cellsP (((a : Nat) : Int), ((x : Nat) : Int), ((y : Nat) : Int), N3)) rfl rfl (size79 _) rfl (cellsP_one _) ?_; intro wp hp hbp; have HPX := Lib.hid hp; have HS2 := Lib.hid (HS.out.frame hbp); have x1 : wp.cell? ⟨wr.heap.size, 1, none⟩ = some (.int .i64 ((x : Nat) : Int)) := Lib.cell_of_heap hp 1; have x2 : wp.cell? ⟨wr.heap.size, 2, none⟩ = some (.int .i64 ((y : Nat) : Int)) := Lib.cell_of_heap hp 2; have x6 : wp.cell? ⟨w.heap.size, 6, none⟩ = some (.slice p m c) := HS2.out.get 6; clear hp hbp HS)
                                      | refine wpList_load_row rfl 38 _ rfl w.heap.size rfl 38 _ (0, 0) _ HS2.out.seg Tryd.underlying38 rfl (size38 _ rfl) ?_
                                      | (refine wpList_retS HS2.out rfl (sg_one _ _ _ _ _ _ _ _ _ _ _ _ _) rfl _ _ rfl rfl rfl ?_; intro wf hf ho hb; have HFF := Lib.hid hf; have HOF := Lib.hid ho; have HBF := Lib.hid hb; clear hf ho hb))
                                    refine bodyPost_ret_by (results_row_tmp rfl _ _ (w.heap.size + 1) _ rfl (run_loadVar_row _ (w.heap.size + 1) 38 38 _ (0, 0) _ HFF.out Tryd.underlying38 rfl (size38 _ rfl)) _ rfl) rfl ⟨.inr ⟨by rw [HE.out ()]; decide, _, rfl, sg_one _ _ _ _ _ _ _ _ _ _ _ _ _, by rw [HE.out ()]; rfl⟩, HBF.out⟩
                                · have o4 : x < 1 := by omega
                                  clear hok o1
                                  go_wp2_with (first
                                    | (go_at_call 55; refine (HA.out _ (by omega) _).mono ?_; rintro e w2 ⟨rfl, rfl⟩; clear HA)
                                    | (go_at_call 55; refine (HB.out _ (by omega) _).mono ?_; rintro e w2 ⟨rfl, rfl⟩; clear HB)
                                    | (go_at_call 55; refine (HC.out _ (by omega) _).mono ?_; rintro e w2 ⟨rfl, rfl⟩; clear HC)
                                    | (refine wpList_freshE rfl 79 _ _ rfl wr _ rfl (cellsP (((a : Nat) : Int), ((x : Nat) : Int), ((y : Nat) : Int), N3)) rfl rfl (size79 _) rfl (cellsP_one _) ?_; intro wp hp hbp; have HPX := Lib.hid hp; have HS2 := Lib.hid (HS.out.frame hbp); have x1 : wp.cell? ⟨wr.heap.size, 1, none⟩ = some (.int .i64 ((x : Nat) : Int)) := Lib.cell_of_heap hp 1; have x2 : wp.cell? ⟨wr.heap.size, 2, none⟩ = some (.int .i64 ((y : Nat) : Int)) := Lib.cell_of_heap hp 2; have x6 : wp.cell? ⟨w.heap.size, 6, none⟩ = some (.slice p m c) := HS2.out.get 6; clear hp hbp HS)
                                    | refine wpList_load_row rfl 38 _ rfl w.heap.size rfl 38 _ (0, 0) _ HS2.out.seg Tryd.underlying38 rfl (size38 _ rfl) ?_
                                    | (refine wpList_retS HS2.out rfl (sg_one _ _ _ _ _ _ _ _ _ _ _ _ _) rfl _ _ rfl rfl rfl ?_; intro wf hf ho hb; have HFF := Lib.hid hf; have HOF := Lib.hid ho; have HBF := Lib.hid hb; clear hf ho hb))
                                  refine bodyPost_ret_by (results_row_tmp rfl _ _ (w.heap.size + 1) _ rfl (run_loadVar_row _ (w.heap.size + 1) 38 38 _ (0, 0) _ HFF.out Tryd.underlying38 rfl (size38 _ rfl)) _ rfl) rfl ⟨.inr ⟨by rw [HE.out ()]; decide, _, rfl, sg_one _ _ _ _ _ _ _ _ _ _ _ _ _, by rw [HE.out ()]; rfl⟩, HBF.out⟩
                        · have hkn : k = n := by omega
                          subst hkn
                          have HFF1 := Lib.hid fun _ : Unit => HFI.out _ _ (HP.out ())
                          have hlt' : ¬ (k : Int) < (k : Int) := by omega
                          clear HPK HFI hlt HBY HP
                          by_cases hend : s.size = 6 + 3 * k
                          · have hend' : ((s.size : Int) != 6 + 3 * (k : Int)) = false := by rw [bne_eq_false_iff_eq]; omega
                            have HEN := Lib.hid hend
                            clear hend
                            go_wp2_with (first
                              | refine wpList_load_row rfl 38 _ rfl w.heap.size rfl 38 _ (0, 0) _ HS.out.seg Tryd.underlying38 rfl (size38 _ rfl) ?_
                              | (refine wpList_retS HS.out rfl (sg_one _ _ _ _ _ _ _ _ _ _ _ _ _) rfl _ _ rfl rfl rfl ?_; intro wf hf ho hb; have HFF := Lib.hid hf; have HOF := Lib.hid ho; have HBF := Lib.hid hb; clear hf ho hb))
                            refine bodyPost_ret_by (results_row_tmp rfl _ _ (w.heap.size + 1) _ rfl (run_loadVar_row _ (w.heap.size + 1) 38 38 _ (0, 0) _ HFF.out Tryd.underlying38 rfl (size38 _ rfl)) _ rfl) rfl ⟨.inl ⟨by unfold eframe; rw [HFF1.out ()]; show (rneed (decide (s.size - (6 + 3 * k) = 0)) 4 (6 + 3 * k, 0)).2 = 0; rw [show decide (s.size - (6 + 3 * k) = 0) = true from decide_eq_true (by have := HEN.out; omega), rneed_yes], .slice p m c, by rw [HFF1.out ()]; rfl, by rw [HFF1.out ()]; exact HOF.out (by decide)⟩, HBF.out⟩
                          · have HE := Lib.hid fun _ : Unit => (show eframe s = 4 by
                              unfold eframe
                              rw [HFF1.out (), show decide (s.size - (6 + 3 * k) = 0) = false from decide_eq_false (by omega), rneed_no rfl])
                            have hend' : ((s.size : Int) != 6 + 3 * (k : Int)) = true := by rw [bne_iff_ne]; omega
                            clear hend HFF1
                            go_wp2_with (first
                              | refine wpList_load_row rfl 38 _ rfl w.heap.size rfl 38 _ (0, 0) _ HS.out.seg Tryd.underlying38 rfl (size38 _ rfl) ?_
                              | (refine wpList_retS HS.out rfl (sg_one _ _ _ _ _ _ _ _ _ _ _ _ _) rfl _ _ rfl rfl rfl ?_; intro wf hf ho hb; have HFF := Lib.hid hf; have HOF := Lib.hid ho; have HBF := Lib.hid hb; clear hf ho hb))
                            refine bodyPost_ret_by (results_row_tmp rfl _ _ (w.heap.size + 1) _ rfl (run_loadVar_row _ (w.heap.size + 1) 38 38 _ (0, 0) _ HFF.out Tryd.underlying38 rfl (size38 _ rfl)) _ rfl) rfl ⟨.inr ⟨by rw [HE.out ()]; decide, _, rfl, sg_one _ _ _ _ _ _ _ _ _ _ _ _ _, by rw [HE.out ()]; rfl⟩, HBF.out⟩
    · have HE := Lib.hid fun _ : Unit => eframe_head (rhead_6 h0 h8) (by decide)
      have e0 : rby s 0 = (s[0].toNat : Int) := by unfold rby; rw [dif_pos h0]
      rw [e0] at HB0
      have hb := s[0].toNat_lt
      have d1 : ((s[0].toNat : Int) != 8) = true := by rw [bne_iff_ne]; omega
      generalize s[0].toNat = N at *
      clear e0 HBY HPA HPB HPN h8
      go_wp2_with (first
        | (go_at_call 55; refine (HB0.out _ (by kernel_rfl) _ rfl).mono ?_; rintro e w2 ⟨rfl, h⟩; have H1 := Lib.hid h; clear h HB0)
        | refine wpList_load_row rfl 38 _ rfl w.heap.size rfl 38 _ (0, 0) _ H1.out.seg Tryd.underlying38 rfl (size38 _ rfl) ?_
        | (refine wpList_retS H1.out rfl (sg_one _ _ _ _ _ _ _ _ _ _ _ _ _) rfl _ _ rfl rfl rfl ?_; intro wf hf ho hb; have HFF := Lib.hid hf; have HOF := Lib.hid ho; have HBF := Lib.hid hb; clear hf ho hb))
      refine bodyPost_ret_by (results_row_tmp rfl _ _ (w.heap.size + 1) _ rfl (run_loadVar_row _ (w.heap.size + 1) 38 38 _ (0, 0) _ HFF.out Tryd.underlying38 rfl (size38 _ rfl)) _ rfl) rfl ⟨.inr ⟨by rw [HE.out ()]; decide, _, rfl, sg_one _ _ _ _ _ _ _ _ _ _ _ _ _, by rw [HE.out ()]; rfl⟩, HBF.out⟩
  · have HE := Lib.hid fun _ : Unit => eframe_head (rhead_out h0) (by decide)
    have e0 : rby s 0 = -1 := by unfold rby; rw [dif_neg h0]
    rw [e0] at HB0
    clear HBY e0 HPA HPB HPN
    go_wp2_with (first
      | (go_at_call 55; refine (HB0.out _ (by kernel_rfl) _ rfl).mono ?_; rintro e w2 ⟨rfl, h⟩; have H1 := Lib.hid h; clear h HB0)
      | refine wpList_load_row rfl 38 _ rfl w.heap.size rfl 38 _ (0, 0) _ H1.out.seg Tryd.underlying38 rfl (size38 _ rfl) ?_
      | (refine wpList_retS H1.out rfl (sg_one _ _ _ _ _ _ _ _ _ _ _ _ _) rfl _ _ rfl rfl rfl ?_; intro wf hf ho hb; have HFF := Lib.hid hf; have HOF := Lib.hid ho; have HBF := Lib.hid hb; clear hf ho hb))
    refine bodyPost_ret_by (results_row_tmp rfl _ _ (w.heap.size + 1) _ rfl (run_loadVar_row _ (w.heap.size + 1) 38 38 _ (0, 0) _ HFF.out Tryd.underlying38 rfl (size38 _ rfl)) _ rfl) rfl ⟨.inr ⟨by rw [HE.out ()]; decide, _, rfl, sg_one _ _ _ _ _ _ _ _ _ _ _ _ _, by rw [HE.out ()]; rfl⟩, HBF.out⟩
end Go.Proofs.YtfohgocdabgbgaaDoor
