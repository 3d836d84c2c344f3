/- The program's join: its walk. -/
import Derived.Test.YtlfnjdgfllhepaaBJoin
namespace Go.Proofs.Ytlfnjdgfllhepaa
open Go.RowKit

/-- Where in a chain a number stands. -/
def posOf (l : List Nat) (v : Value) : Nat := if intOf v < 0 then l.length else l.idxOf (intOf v).toNat
theorem posOf_at {l : List Nat} (h : l.Nodup) {j x : Nat} (hx : l[j]? = some x) : posOf l (.int .i64 (x : Nat)) = j := by
  obtain ⟨hj, hxe⟩ := List.getElem?_eq_some_iff.1 hx
  unfold posOf
  rw [if_neg (by simp [intOf])]
  have e : (intOf (.int .i64 (x : Nat))).toNat = x := by simp [intOf]
  rw [e]
  have hm : x ∈ l := hxe ▸ List.getElem_mem hj
  have h1 := List.idxOf_lt_length_of_mem hm
  have h2 : l[l.idxOf x]'h1 = x := List.getElem_idxOf h1
  rcases Nat.lt_trichotomy (l.idxOf x) j with hlt | heq | hgt
  · exact absurd (h2.trans hxe.symm) (List.pairwise_iff_getElem.1 h _ _ h1 hj hlt)
  · exact heq
  · exact absurd (hxe.trans h2.symm) (List.pairwise_iff_getElem.1 h _ _ hj h1 hgt)
theorem posOf_none (l : List Nat) : posOf l (.int .i64 (-1)) = l.length := by
  unfold posOf
  rw [if_pos (by simp [intOf])]

set_option maxHeartbeats 4000000 in
set_option maxRecDepth 100000 in
theorem join_any (k : Nat) (W : Nat → Nat) (nx : Nat → Option Nat) (L : Nat → Nat) (a b : Nat) (hab : a ≠ b) (ha : a < 257) (hb : b < 257) (la l : List Nat) (hla : Path nx a la) (z : Nat) (hz : la[la.length - 1]? = some z)
    (n2 : Nat → Option Nat) (hn2 : n2 = fun x => if x = z then some b else nx x) (hl : Path n2 a l) (hnd : l.Nodup) (hm : ∀ x ∈ l, x < 257) (hma : ∀ x ∈ la, x < 257) (hnda : la.Nodup)
    (W2 : Nat → Nat) (hW2 : W2 = upd (upd W a (W a + W b)) b 0) (hW : W a + W b < 1000000000000000) (hL : ∀ x, x < 257 → L x < 1000000) (w : World) (hw : Gs k W nx L w) :
    Calls Try.prog 28 #[.pointer (some ⟨k, 0, none⟩), .int .i64 a, .int .i64 b] w fun e w' => e = .returned (.tuple #[]) ∧ Gs k W2 n2 (more L l) w' ∧ But k w w' := by
  have HLA := Lib.hid hla
  have HL := Lib.hid hl
  have HND := Lib.hid hnd
  have HM := Lib.hid hm
  have HMA := Lib.hid hma
  have HZ := Lib.hid hz
  have HNA := Lib.hid hnda
  have HLB := Lib.hid hL
  have HW := Lib.hid hw
  have x0 := hw.cW ha
  have x1 := hw.cW hb
  have x2 := hw.free a
  have x3 := hw.free b
  have HAB := Lib.hid hab
  have HN2 := Lib.hid hn2
  have HW2 := Lib.hid hW2
  clear hla hl hnd hm hma hz hL hw hab hnda hn2 hW2
  go_enter Try.func28, Try.ntmps28
  go_wp2
  go_region
  obtain ⟨w1, hw1⟩ : ∃ w1, w1 = (w.setCell { block := k, off := a } (Value.int IntKind.i64 (↑(W a) + ↑(W b)))).drew := ⟨_, rfl⟩
  rw [← hw1]
  have HG1 : Hid (Gs k (upd W a (W a + W b)) nx L w1) := by rw [hw1]; exact ⟨(HW.out.setW ha (W a + W b)).row⟩
  have HB1 : Hid (But k w w1) := by rw [hw1]; exact ((But.refl k w).setCell a _).drewN 1
  clear hw1 x0 x1 x2 x3
  have x0 := HG1.out.free b
  have x1 := HG1.out.cW hb
  go_wp2
  obtain ⟨w2, hw2⟩ : ∃ w2, w2 = (w1.setCell { block := k, off := b } (Value.int IntKind.i64 0)) := ⟨_, rfl⟩
  rw [← hw2]
  have HG2 : Hid (Gs k W2 nx L w2) := by rw [hw2, HW2.out]; exact HG1.out.setW hb 0
  have HB2 : Hid (But k w w2) := by rw [hw2]; exact HB1.out.setCell b _
  clear hw2 HG1 HB1 x0 x1
  go_loop [6] (fun f => ∃ j x : Nat, la[j]? = some x ∧ f = .int .i64 x) (fun f => la.length - posOf la f)
  case atStart => exact ⟨0, a, HLA.out.hd, rfl⟩
  case round =>
    obtain ⟨j, x, hx, rfl⟩ := hrel
    have hlt : x < 257 := HMA.out x (List.mem_of_getElem? hx)
    have x0 := HG2.out.cN hlt
    rw [HLA.out.nxt j x hx] at x0
    have HX := Lib.hid hx
    clear hx
    cases hy : la[j + 1]? with
    | some y =>
      rw [hy] at x0
      rw [show oi (some y) = (y : Int) from rfl] at x0
      have HY := Lib.hid hy
      clear hy
      go_wp2
      go_round
      case rel => exact ⟨j + 1, y, HY.out, rfl⟩
      case measure =>
        rw [posOf_at HNA.out HX.out, posOf_at HNA.out HY.out]
        have := (List.getElem?_eq_some_iff.1 HX.out).1
        omega
    | none =>
      rw [hy] at x0
      rw [show oi none = (-1 : Int) from rfl] at x0
      have hxz : x = z := by
        have h1 := HZ.out
        have h2 := (List.getElem?_eq_some_iff.1 HX.out).1
        rw [List.getElem?_eq_none_iff] at hy
        rw [show la.length - 1 = j by omega, HX.out] at h1
        exact Option.some.inj h1
      subst hxz
      have x1 := HG2.out.free (257 + x)
      clear hy
      go_wp2
      obtain ⟨w3, hw3⟩ : ∃ w3, w3 = (w2.setCell { block := k, off := 257 + x } (Value.int IntKind.i64 ↑b)) := ⟨_, rfl⟩
      rw [← hw3]
      have HG3 : Hid (Gs k W2 n2 L w3) := by rw [hw3, HN2.out]; exact HG2.out.setN hlt b
      have HB3 : Hid (But k w w3) := by rw [hw3]; exact HB2.out.setCell _ _
      clear hw3 x0 x1
      go_loopw [7] (fun f wr => ∃ j : Nat, j ≤ l.length ∧ f = .int .i64 (oi l[j]?) ∧ Gs k W2 n2 (more L (l.take j)) wr ∧ But k w wr) (fun f _ => l.length - posOf l f)
      case atStart => exact ⟨0, Nat.zero_le _, by rw [HL.out.hd]; rfl, by rw [List.take_zero, more_nil]; exact HG3.out, HB3.out⟩
      case round =>
        obtain ⟨i, hi, rfl, hg, hbt⟩ := hrel
        have HG4 := Lib.hid hg
        have HB4 := Lib.hid hbt
        clear hg hbt
        cases hy : l[i]? with
        | none =>
          rw [show oi none = (-1 : Int) from rfl]
          have HE : Hid (l.take i = l) := by
            rw [List.getElem?_eq_none_iff] at hy
            exact List.take_of_length_le hy
          clear hy
          rw [HE.out] at HG4
          go_wp2
          go_end0
          exact ⟨rfl, HG4.out, HB4.out⟩
        | some y =>
          rw [show oi (some y) = (y : Int) from rfl]
          have hy2 : y < 257 := HM.out y (List.mem_of_getElem? hy)
          have x0 := HG4.out.cL hy2
          have x1 := HG4.out.free (514 + y)
          obtain ⟨hm1, hm2⟩ := more_step L l HND.out i y hy
          have hlb := HLB.out y hy2
          rw [hm2] at x0 hm1
          have HM1 := Lib.hid hm1
          have HN := Lib.hid (HL.out.nxt i y hy)
          have HY := Lib.hid hy
          clear hy hm1 hm2
          generalize L y = d at *
          go_wp2
          go_region
          obtain ⟨w4, hw4⟩ : ∃ w4, w4 = (wr.setCell { block := k, off := 514 + y } (Value.int IntKind.i64 (↑d + 1))).drew := ⟨_, rfl⟩
          rw [← hw4]
          have HG5 : Hid (Gs k W2 n2 (more L (l.take (i + 1))) w4) := by
            rw [← HM1.out, hw4]
            exact ⟨(HG4.out.setL hy2 (d + 1)).row⟩
          have HB5 : Hid (But k w w4) := by rw [hw4]; exact (HB4.out.setCell _ _).drewN 1
          have x2 := HG5.out.cN hy2
          rw [HN.out] at x2
          clear hw4 x0 x1
          go_wp2
          go_roundw
          case rel => exact ⟨i + 1, (List.getElem?_eq_some_iff.1 HY.out).1, rfl, HG5.out, HB5.out⟩
          case measure =>
            have h1 := (List.getElem?_eq_some_iff.1 HY.out).1
            rw [posOf_at HND.out HY.out]
            cases h2 : l[i + 1]? with
            | none => rw [show oi none = (-1 : Int) from rfl, posOf_none]; omega
            | some q => rw [show oi (some q) = (q : Int) from rfl, posOf_at HND.out h2]; omega
end Go.Proofs.Ytlfnjdgfllhepaa
