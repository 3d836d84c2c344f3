/- The writer: two numbers as one byte; what a builder holds; frames and scans. -/
import Derived.Test.YtfohgocdabgbgaaDoorMEq
import Derived.Test.YtfohgocdabgbgaaDoorSWhole
import Derived.Test.YtfohgocdabgbgaaDoorSParse2
namespace Go.Proofs.YtfohgocdabgbgaaDoor
open Go.RowKit

/-! The writer: two numbers as one byte; what a builder holds; frames and scans. -/
/-! The writer: two numbers as one byte; what a builder holds; frames and scans. -/
theorem kept_below {e : TypeId} {bo : Option Nat} {a w w' : World} (h : Lib.OthersKept e bo a w) (hb : Below w.heap.size w w') : Lib.OthersKept e bo a w' := by
  intro k x hk hbk hx
  have h1 := h k x hk hbk hx
  rw [hb.block k (Array.getElem?_eq_some_iff.1 h1).1]
  exact h1

theorem copyCheck_kept (B b : Nat) (l : List UInt8) (w : World) (h : Bld B b l w) :
    Calls Tryd.prog 50 #[.pointer (some ⟨b, 0, none⟩)] w fun e w' => e = .returned (.tuple #[]) ∧ Lib.BuilderAt 95 5 B b (.pointer (some ⟨b, 0, none⟩)) (Lib.byteCells l) w' ∧ Below B w w' ∧ Lib.OthersKept 5 (some b) w w' := by
  rcases h with h | h
  · refine (copyCheck_fresh b w h.cell0 h.shape h.frozen0).mono ?_
    rintro e w' ⟨rfl, rfl⟩
    exact ⟨rfl, h.used _, (Below.refl B w).setCell (p := ⟨b, 0, none⟩) h.1 _, (Lib.OthersKept.refl 5 (some b) w).setCell ⟨b, 0, none⟩ rfl _⟩
  · refine (copyCheck_used b w h.cell0).mono ?_
    rintro e w' ⟨rfl, rfl⟩
    exact ⟨rfl, h, Below.refl B _, Lib.OthersKept.refl _ _ _⟩

set_option maxHeartbeats 2000000 in
set_option maxRecDepth 100000 in
theorem WriteString_kept (B b : Nat) (l : List UInt8) (s : ByteArray) (w : World) (h : Bld B b l w) (hlen : l.length + s.size ≤ 140737488355328) (hBw : B ≤ w.heap.size) :
    Calls Tryd.prog 26 #[.pointer (some ⟨b, 0, none⟩), .string s] w fun e w' => e = .returned (.tuple #[.int .i64 s.size, .nilIface]) ∧ Bld B b (l ++ s.data.toList) w' ∧ Below B w w' ∧ Lib.OthersKept 5 (some b) w w' := by
  obtain ⟨i0, hi, hz0, hz1, hz2⟩ := info_parts info5
  have HC := Lib.hid (copyCheck_kept B b l w h)
  go_enter Tryd.func26, Tryd.ntmps26
  go_wp2_with (go_at_call 50; refine HC.out.mono ?_)
  rintro e w1 ⟨rfl, h1, hb1, hk1⟩
  have HK1 := Lib.hid hk1
  clear hk1
  obtain ⟨hB, v, hbk, hown, hne⟩ := h1
  have c0 : w1.cell? ⟨b, 0, none⟩ = some (.pointer (some ⟨b, 0, none⟩)) := by rw [Lib.cell_of_heap hbk]; rfl
  have c1 : w1.cell? ⟨b, 1, none⟩ = some v := by rw [Lib.cell_of_heap hbk]; rfl
  rw [Lib.byteCells_length] at hown
  go_wp2_with (at_builtin; refine Lib.wpList_append_own_string _ rfl _ _ 31 9 rfl B 5 i0 Tryd.underlying31 Tryd.underlying9 hi hz0 hz1 hz2 _ _ _ rfl hown s rfl ?c3 ?c4 ?c5 ?_)
  case c3 => unfold maxLen; omega
  case c4 => omega
  case c5 => have := hb1.size; omega
  intro v' w2 hown' hgrow _
  have hlt : b < w1.heap.size := (Array.getElem?_eq_some_iff.1 hbk).1
  have hb2 : w2.heap[b]? = some (.cells #[.pointer (some ⟨b, 0, none⟩), v] 95 (0, 0)) := by
    rw [hgrow.block b hlt (fun e => hne e.symm)]
    exact hbk
  have d0 : w2.cell? ⟨b, 0, none⟩ = some (.pointer (some ⟨b, 0, none⟩)) := by rw [Lib.cell_of_heap hb2]; rfl
  have d1 : w2.cell? ⟨b, 1, none⟩ = some v := by rw [Lib.cell_of_heap hb2]; rfl
  have f1 : w2.frozen? ⟨b, 1, none⟩ = false := Lib.frozen_of_heap hb2 1
  obtain ⟨ao, n', cap, rfl⟩ : ∃ ao n' cap, v' = .slice ao n' cap := by
    rcases hown'.2 with ⟨hv, _⟩ | ⟨g, cap, cur, hv, _⟩
    · exact ⟨_, _, _, hv⟩
    · exact ⟨_, _, _, hv⟩
  go_wp2
  go_ret2
  refine ⟨rfl, ?_, ?_, ?_⟩
  · refine .inr (Lib.BuilderAt.put (T := 95) (e := 5) hB hb2 (bs' := Lib.byteCells (l ++ s.data.toList)) ?_ (by decide))
    rw [Lib.byteCells_length, List.length_append, Lib.byteCells_append, ← strCells_bytes]
    simpa using hown'
  · exact (hb1.grown hgrow (by have := hb1.size; omega) (fun k hk => (hown.lt k hk).1)).setCell (p := ⟨b, 1, none⟩) hB _
  · exact (HK1.out.trans (OthersKept.some b ((Lib.OthersKept.refl 5 none w1).grown hgrow (Lib.ownsRow_kind hown)))).setCell ⟨b, 1, none⟩ rfl _
set_option maxHeartbeats 1000000 in
theorem wnum_kept (B b : Nat) (l : List UInt8) (n m : Int) (w : World) (h : Bld B b l w) (hl : l.length ≤ 1000000000) :
    Calls Tryd.prog 31 #[.pointer (some ⟨b, 0, none⟩), .int .i64 n, .int .i64 m] w fun e w' => e = .returned (.tuple #[]) ∧ Bld B b (l ++ pbytes n m) w' ∧ Below B w w' ∧ Lib.OthersKept 5 (some b) w w' := by
  have H := Lib.hid h
  have HP := Lib.hid (Put_any n m w)
  have hpl := pbytes_length n m
  have hps := putted_size n m
  have HL : Hid (l ++ (putted n m).1.data.toList = l ++ pbytes n m) := rfl
  have hbl := h.lt
  clear h
  generalize (putted n m).2 = er at *
  generalize hS : (putted n m).1 = S at *
  clear hS
  go_enter Tryd.func31, Tryd.ntmps31
  go_wp2_with (first
    | (go_at_call 53; refine HP.out.mono ?_; rintro e w1 ⟨rfl, hb1⟩; have H1 := Lib.hid (H.out.on hb1); have HB1 := Lib.hid hb1; clear hb1 HP)
    | (go_at_call 26; refine (WriteString_kept B b l S w1 H1.out (by omega) (by have := HB1.out.size; omega)).mono ?_; rintro e w2 ⟨rfl, hr, hb2, hk2⟩; rw [HL.out] at hr; have H2 := Lib.hid hr; have HB2 := Lib.hid ((HB1.out.mono (by omega)).trans hb2); have HK2 := Lib.hid ((kept_below (Lib.OthersKept.refl 5 (some b) w) HB1.out).trans hk2); clear hr hb2 hk2))
  go_end0
  exact ⟨rfl, H2.out, HB2.out, HK2.out⟩
/-- Two numbers as one byte, as the program reckons it. -/
def pairI (a b : Int) : Int := wrap64 (wrap64 (16 * a) + b)
set_option maxHeartbeats 1000000 in
theorem wpair_kept (B b : Nat) (l : List UInt8) (a d : Int) (w : World) (h : Bld B b l w) (hl : l.length ≤ 1000000000) :
    Calls Tryd.prog 51 #[.pointer (some ⟨b, 0, none⟩), .int .i64 a, .int .i64 d] w fun e w' => e = .returned (.tuple #[]) ∧ Bld B b (l ++ pbytes (pairI a d) 1) w' ∧ Below B w w' ∧ Lib.OthersKept 5 (some b) w w' := by
  have H := Lib.hid (wnum_kept B b l (pairI a d) 1 w h hl)
  unfold pairI at H
  clear h hl
  go_enter Tryd.func51, Tryd.ntmps51
  go_wp2_with (go_at_call 31; refine H.out.mono ?_; rintro e w1 ⟨rfl, hr, hb1, hk1⟩; have H1 := Lib.hid hr; have HB1 := Lib.hid hb1; have HK1 := Lib.hid hk1; clear hb1 hr hk1 H)
  go_end0
  exact ⟨rfl, H1.out, HB1.out, HK1.out⟩
set_option maxHeartbeats 1000000 in
set_option maxRecDepth 100000 in
/-- A builder that holds nothing. -/
theorem String_empty (B b : Nat) (w : World) (h : Bld B b [] w) (hB : B ≤ w.heap.size) :
    Calls Tryd.prog 33 #[.pointer (some ⟨b, 0, none⟩)] w fun e w' => e = .returned (.string ⟨#[]⟩) ∧ Below B w w' := by
  obtain ⟨p, hB', v, hbk, hown, hne⟩ : ∃ p, Lib.BuilderAt 95 5 B b p (Lib.byteCells []) w := by
    rcases h with h | h
    · exact ⟨_, h⟩
    · exact ⟨_, h⟩
  rcases hown.2 with ⟨rfl, _⟩ | ⟨g, cap, cur, rfl, hbg, hg, hnc, hcm, hcs, htake⟩
  · exact String_nil B b p w hbk
  · have hUS : ∀ W q, (Builtin.unsafeString_ #[134, 3] 9 #[.pointer q, .int .i64 0]).run Tryd.prog W = .ok (.string .empty) W := fun W q => Lib.run_unsafeString_none W _ _ _ q
    have c1 : w.drew.cell? ⟨b, 1, none⟩ = some (.slice (some ⟨g, 0, none⟩) 0 cap) := by
      have : w.drew.heap[b]? = some (.cells #[p, .slice (some ⟨g, 0, none⟩) 0 cap] 95 (0, 0)) := hbk
      rw [Lib.cell_of_heap this]; rfl
    by_cases hcap : cap = 0
    · subst hcap
      have hsh : w.drew.shape? g = some (5, cur.size) := by
        have hg' : w.drew.heap[g]? = some (.cells cur 5 (0, 0)) := hg
        simp [World.shape?, hg']
      have hSD : (Builtin.unsafeSliceData_ #[31] 134 #[.slice (some ⟨g, 0, none⟩) 0 0]).run Tryd.prog w.drew = .ok (.pointer (some ⟨w.drew.heap.size, 0, none⟩)) (w.drew.alloc (.view ⟨g, 0, none⟩ 5)) :=
        Lib.run_unsafeSliceData_zero _ _ _ _ Tryd.underlying134 _ _ _ hsh
      have c2 : (w.alloc (.view ⟨g, 0, none⟩ 5)).cell? ⟨b, 1, none⟩ = some (.slice (some ⟨g, 0, none⟩) 0 0) := by
        have hb : b < w.heap.size := (Array.getElem?_eq_some_iff.1 hbk).1
        unfold World.cell?
        rw [Below.heap_alloc _ _ _ hb]
        exact c1
      have HB : Hid (Below B w (w.alloc (.view ⟨g, 0, none⟩ 5)).drew) := Below.drew ((Below.refl B w).alloc hB _)
      go_enter Tryd.func33, Tryd.ntmps33
      go_wp2
      go_region
      all_goals (go_wp2; go_ret; exact ⟨rfl, HB.out⟩)
    · have hSD : (Builtin.unsafeSliceData_ #[31] 134 #[.slice (some ⟨g, 0, none⟩) 0 cap]).run Tryd.prog w.drew = .ok (.pointer (some ⟨g, 0, none⟩)) w.drew :=
        Lib.run_unsafeSliceData_row _ _ _ _ _ _ hcap
      go_enter Tryd.func33, Tryd.ntmps33
      go_wp2
      go_region
      all_goals (go_wp2; go_ret; exact ⟨rfl, Below.drew (Below.refl B w)⟩)
theorem String_any (B b : Nat) (l : List UInt8) (w : World) (h : Bld B b l w) (hB : B ≤ w.heap.size) :
    Calls Tryd.prog 33 #[.pointer (some ⟨b, 0, none⟩)] w fun e w' => e = .returned (.string ⟨l.toArray⟩) ∧ Below B w w' := by
  cases l with
  | nil => exact String_empty B b w h hB
  | cons x l => exact String_some B b (x :: l) w h (by simp)
/-! The writer: a frame's beginning, a scan's. -/
theorem kept_row {b g : Nat} {w w' : World} {cs : Array Value} {t : TypeId} {fz : Nat × Nat} (h : w.heap[g]? = some (.cells cs t fz)) (hk : Lib.OthersKept 5 (some b) w w') (hg : g ≠ b) (ht : t ≠ 5) : w'.heap[g]? = some (.cells cs t fz) :=
  hk g _ h (by simpa using hg) (fun c fz e => by simp only [Obj.cells.injEq] at e; exact ht e.2.1)
/-- The bytes of components. -/
def wparts (l : List PT) : List UInt8 := l.flatMap fun p => pbytes p.1 1 ++ pbytes (pairI p.2.1 p.2.2.1) 1 ++ pbytes p.2.2.2 1
theorem wparts_snoc (l : List PT) (p : PT) : wparts (l ++ [p]) = wparts l ++ pbytes p.1 1 ++ pbytes (pairI p.2.1 p.2.2.1) 1 ++ pbytes p.2.2.2 1 := by
  simp [wparts]
theorem wparts_length : ∀ l : List PT, (wparts l).length ≤ 12 * l.length
  | [] => by simp [wparts]
  | p :: l => by
    have h1 := wparts_length l
    have e : wparts (p :: l) = pbytes p.1 1 ++ pbytes (pairI p.2.1 p.2.2.1) 1 ++ pbytes p.2.2.2 1 ++ wparts l := by simp [wparts]
    have a1 := pbytes_length p.1 1
    have a2 := pbytes_length (pairI p.2.1 p.2.2.1) 1
    have a3 := pbytes_length p.2.2.2 1
    rw [e]
    simp only [List.length_append, List.length_cons]
    omega
/-- The bytes of a frame's beginning. -/
def wframe (h u : Int) (l : List PT) : List UInt8 := pbytes 8 1 ++ pbytes h 2 ++ pbytes u 2 ++ pbytes l.length 1 ++ wparts l
set_option maxHeartbeats 4000000 in
theorem frame_w (B b : Nat) (a : List UInt8) (z h u : Int) (v : Value) (l : List PT) (hl : l.length ≤ 1000000) (ha : a.length ≤ 1000000) (W0 : World) (hW0 : W0.heap.size = B) (hv : RowV 4 cellsP v l W0) (w : World) (hw : Below B W0 w) (hb : Bld B b a w) :
    Calls Tryd.prog 29 #[.pointer (some ⟨b, 0, none⟩), .agg #[.int .i64 z, .int .i64 h, .int .i64 u, v]] w fun e w' => e = .returned (.tuple #[]) ∧ Bld B b (a ++ wframe h u l) w' ∧ Below B w w' := by
  subst hW0
  obtain ⟨p, n, c, rfl, hn⟩ := hv.shape
  have hnn : n = l.length := hn
  have hlt := hb.lt
  have HGN : Hid (w.heap.size ≠ b) := by show w.heap.size ≠ b; omega
  have HV := Lib.hid hv
  have HN := Lib.hid hnn
  have hnl : n ≤ 1000000 := by rw [hnn]; exact hl
  have hbx := below_new w (.cells #[.int .i64 z, .int .i64 h, .int .i64 u, .slice p n c] 44)
  have H0 := Lib.hid (hb.on hbx)
  have HBX := Lib.hid (hbx.mono (show W0.heap.size ≤ w.heap.size by omega))
  have HG0 := Lib.hid (heap_alloc_new w (.cells #[.int .i64 z, .int .i64 h, .int .i64 u, .slice p n c] 44))
  have HW := Lib.hid hw
  have HWF : Hid (wframe h u l = pbytes 8 1 ++ pbytes h 2 ++ pbytes u 2 ++ pbytes n 1 ++ wparts l) := by rw [hnn]; rfl
  have p1 := pbytes_length 8 1
  have p2 := pbytes_length h 2
  have p3 := pbytes_length u 2
  have p4 := pbytes_length n 1
  obtain ⟨A1, hA1⟩ : ∃ A, A = a ++ pbytes 8 1 := ⟨_, rfl⟩
  obtain ⟨A2, hA2⟩ : ∃ A, A = A1 ++ pbytes h 2 := ⟨_, rfl⟩
  obtain ⟨A3, hA3⟩ : ∃ A, A = A2 ++ pbytes u 2 := ⟨_, rfl⟩
  obtain ⟨A4, hA4⟩ : ∃ A, A = A3 ++ pbytes n 1 := ⟨_, rfl⟩
  have l1 : A1.length ≤ 1000004 := by rw [hA1, List.length_append]; omega
  have l2 : A2.length ≤ 1000008 := by rw [hA2, List.length_append]; omega
  have l3 : A3.length ≤ 1000012 := by rw [hA3, List.length_append]; omega
  have l4 : A4.length ≤ 1000016 := by rw [hA4, List.length_append]; omega
  have HFIN : Hid (a ++ wframe h u l = A4 ++ wparts l) := by
    unfold Hid
    rw [HWF.out, hA4, hA3, hA2, hA1]
    simp
  have K1 := Lib.hid fun x hx => wnum_kept W0.heap.size b a 8 1 x hx (by omega)
  rw [← hA1] at K1
  have K2 := Lib.hid fun x hx => wnum_kept W0.heap.size b A1 h 2 x hx (by omega)
  rw [← hA2] at K2
  have K3 := Lib.hid fun x hx => wnum_kept W0.heap.size b A2 u 2 x hx (by omega)
  rw [← hA3] at K3
  have K4 := Lib.hid fun x hx => wnum_kept W0.heap.size b A3 n 1 x hx (by omega)
  rw [← hA4] at K4
  clear hA1 hA2 hA3 hA4 l1 l2 l3 p1 p2 p3 p4 hn hnn hv hb hbx hw ha HWF hlt hl
  go_enter Tryd.func29, Tryd.ntmps29
  go_upto_region 5 with (first
    | (go_at_call 31; refine (K1.out _ H0.out).mono ?_; rintro e w1 ⟨rfl, hr, hb, hk⟩; have H1 := Lib.hid hr; have B1 := Lib.hid (HBX.out.trans hb); have g1 := kept_row HG0.out hk HGN.out (by decide); have G1 := Lib.hid g1; have x1 : w1.cell? ⟨w.heap.size, 1, none⟩ = some (.int .i64 h) := Lib.cell_of_heap g1 1; clear hr hb hk g1 K1)
    | (go_at_call 31; refine (K2.out _ H1.out).mono ?_; rintro e w2 ⟨rfl, hr, hb, hk⟩; have H2 := Lib.hid hr; have B2 := Lib.hid (B1.out.trans hb); have g2 := kept_row G1.out hk HGN.out (by decide); have G2 := Lib.hid g2; have x2 : w2.cell? ⟨w.heap.size, 2, none⟩ = some (.int .i64 u) := Lib.cell_of_heap g2 2; clear hr hb hk g2 K2)
    | (go_at_call 31; refine (K3.out _ H2.out).mono ?_; rintro e w3 ⟨rfl, hr, hb, hk⟩; have H3 := Lib.hid hr; have B3 := Lib.hid (B2.out.trans hb); have g3 := kept_row G2.out hk HGN.out (by decide); have G3 := Lib.hid g3; have x3 : w3.cell? ⟨w.heap.size, 3, none⟩ = some (.slice p n c) := Lib.cell_of_heap g3 3; clear hr hb hk g3 K3)
    | (go_at_call 31; refine (K4.out _ H3.out).mono ?_; rintro e w4 ⟨rfl, hr, hb, hk⟩; have H4 := Lib.hid hr; have B4 := Lib.hid (B3.out.trans hb); have g4 := kept_row G3.out hk HGN.out (by decide); have x4 : w4.cell? ⟨w.heap.size, 3, none⟩ = some (.slice p n c) := Lib.cell_of_heap g4 3; clear hr hb hk g4 K4))
  clear H0 H1 H2 H3 HBX HG0 B1 B2 B3 G1 G2 G3 x1 x2 x3
  go_wp2
  clear x4
  go_loopw [24] (fun i wr => ∃ k : Nat, i = .int .i64 k ∧ k ≤ n ∧ Bld W0.heap.size b (A4 ++ wparts (l.take k)) wr ∧ Below W0.heap.size w wr) (fun i _ => n - (intOf i).toNat)
  case atStart => exact ⟨0, rfl, Nat.zero_le _, by simpa [wparts] using H4.out, B4.out⟩
  case round =>
    obtain ⟨k, rfl, hk, hr, hb⟩ := hrel
    have HR := Lib.hid hr
    have HB := Lib.hid hb
    have hbl := hr.lt
    clear hr hb
    by_cases hlt : k < n
    · have hkl : k < l.length := by rw [← HN.out]; exact hlt
      obtain ⟨q, o, d, hvv, hbl', hc⟩ := (HV.out.on cellsP_size (HW.out.trans HB.out)).lies (by omega)
      simp only [Value.slice.injEq] at hvv
      obtain ⟨rfl, hy1, hy2⟩ := hvv
      clear hy1 hy2
      obtain ⟨x0, x1, x2, x3⟩ := part_cells hc hkl
      have HT : Hid (l.take (k + 1) = l.take k ++ [l[k]]) := List.take_succ_eq_append_getElem hkl
      have hlw := wparts_length (l.take k)
      have hlk : (l.take k).length ≤ k := List.length_take_le _ _
      obtain ⟨D, hD⟩ : ∃ D, D = A4 ++ wparts (l.take k) := ⟨_, rfl⟩
      rw [← hD] at HR
      have hDl : D.length ≤ 20000000 := by rw [hD, List.length_append]; omega
      have HD : Hid (A4 ++ wparts (l.take (k + 1)) = D ++ pbytes l[k].1 1 ++ pbytes (pairI l[k].2.1 l[k].2.2.1) 1 ++ pbytes l[k].2.2.2 1) := by
        unfold Hid
        rw [HT.out, wparts_snoc, hD]
        simp
      have p1 := pbytes_length l[k].1 1
      have p2 := pbytes_length (pairI l[k].2.1 l[k].2.2.1) 1
      generalize l[k].1 = a1 at *
      generalize l[k].2.1 = a2 at *
      generalize l[k].2.2.1 = a3 at *
      generalize l[k].2.2.2 = a4 at *
      obtain ⟨D1, hD1⟩ : ∃ A, A = D ++ pbytes a1 1 := ⟨_, rfl⟩
      obtain ⟨D2, hD2⟩ : ∃ A, A = D1 ++ pbytes (pairI a2 a3) 1 := ⟨_, rfl⟩
      have l1 : D1.length ≤ 20000004 := by rw [hD1, List.length_append]; omega
      have l2 : D2.length ≤ 20000008 := by rw [hD2, List.length_append]; omega
      rw [← hD1, ← hD2] at HD
      have K1 := Lib.hid fun x hx => wnum_kept W0.heap.size b D a1 1 x hx (by omega)
      rw [← hD1] at K1
      have K2 := Lib.hid fun x hx => wpair_kept W0.heap.size b D1 a2 a3 x hx (by omega)
      rw [← hD2] at K2
      have K3 := Lib.hid fun x hx => wnum_kept W0.heap.size b D2 a4 1 x hx (by omega)
      rw [← HD.out] at K3
      have hbx := below_new wr (.cells #[.int .i64 a1, .int .i64 a2, .int .i64 a3, .int .i64 a4] 80)
      have H0 := Lib.hid (HR.out.on hbx)
      have HBX := Lib.hid (HB.out.trans (hbx.mono (show W0.heap.size ≤ wr.heap.size by omega)))
      have HG0 := Lib.hid (heap_alloc_new wr (.cells #[.int .i64 a1, .int .i64 a2, .int .i64 a3, .int .i64 a4] 80))
      have HGN2 : Hid (wr.heap.size ≠ b) := by show wr.heap.size ≠ b; omega
      clear hD hD1 hD2 hDl l1 l2 p1 p2 hlw hlk hc hbl hbl' hkl hbx HT
      go_wp2_with (first
        | (go_at_call 31; refine (K1.out _ H0.out).mono ?_; rintro e w1 ⟨rfl, hr, hb, hk⟩; have H1 := Lib.hid hr; have B1 := Lib.hid (HBX.out.trans hb); have g1 := kept_row HG0.out hk HGN2.out (by decide); have G1 := Lib.hid g1; have z1 : w1.cell? ⟨wr.heap.size, 1, none⟩ = some (.int .i64 a2) := Lib.cell_of_heap g1 1; have z2 : w1.cell? ⟨wr.heap.size, 2, none⟩ = some (.int .i64 a3) := Lib.cell_of_heap g1 2; clear hr hb hk g1 K1)
        | (go_at_call 51; refine (K2.out _ H1.out).mono ?_; rintro e w2 ⟨rfl, hr, hb, hk⟩; have H2 := Lib.hid hr; have B2 := Lib.hid (B1.out.trans hb); have g2 := kept_row G1.out hk HGN2.out (by decide); have z3 : w2.cell? ⟨wr.heap.size, 3, none⟩ = some (.int .i64 a4) := Lib.cell_of_heap g2 3; clear hr hb hk g2 K2)
        | (go_at_call 31; refine (K3.out _ H2.out).mono ?_; rintro e w3 ⟨rfl, hr, hb, hk⟩; have H3 := Lib.hid hr; have B3 := Lib.hid (B2.out.trans hb); clear hr hb hk K3))
      go_roundw
      case rel => exact ⟨k + 1, by go_num, by omega, H3.out, B3.out⟩
      case measure => simp [intOf]; omega
    · obtain rfl : k = n := by omega
      have HF : Hid (Bld W0.heap.size b (a ++ wframe h u l) wr) := by
        have := HR.out
        rw [show k = l.length from HN.out, List.take_length] at this
        unfold Hid
        rw [HFIN.out]
        exact this
      go_wp2
      go_end0
      exact ⟨rfl, HF.out, HB.out⟩
/-- The bytes of a scan's components. -/
def wpicks (l : List KT) : List UInt8 := l.flatMap fun p => pbytes p.1 1 ++ pbytes (pairI p.2.1 p.2.2) 1
theorem wpicks_snoc (l : List KT) (p : KT) : wpicks (l ++ [p]) = wpicks l ++ pbytes p.1 1 ++ pbytes (pairI p.2.1 p.2.2) 1 := by
  simp [wpicks]
theorem wpicks_length : ∀ l : List KT, (wpicks l).length ≤ 12 * l.length
  | [] => by simp [wpicks]
  | p :: l => by
    have h1 := wpicks_length l
    have e : wpicks (p :: l) = pbytes p.1 1 ++ pbytes (pairI p.2.1 p.2.2) 1 ++ wpicks l := by simp [wpicks]
    have a1 := pbytes_length p.1 1
    have a2 := pbytes_length (pairI p.2.1 p.2.2) 1
    rw [e]
    simp only [List.length_append, List.length_cons]
    omega
/-- The bytes of a scan's beginning. -/
def wscan (l : List KT) (f t h u : Int) : List UInt8 := pbytes l.length 1 ++ wpicks l ++ pbytes f 1 ++ pbytes t 1 ++ pbytes (pairI h u) 1
set_option maxHeartbeats 4000000 in
theorem scan_w (B b : Nat) (a : List UInt8) (f t h u : Int) (v : Value) (l : List KT) (hl : l.length ≤ 1000000) (ha : a.length ≤ 1000000) (W0 : World) (hW0 : W0.heap.size = B) (hv : RowV 3 cellsK v l W0) (w : World) (hw : Below B W0 w) (hb : Bld B b a w) :
    Calls Tryd.prog 30 #[.pointer (some ⟨b, 0, none⟩), .agg #[v, .int .i64 f, .int .i64 t, .int .i64 h, .int .i64 u]] w fun e w' => e = .returned (.tuple #[]) ∧ Bld B b (a ++ wscan l f t h u) w' ∧ Below B w w' := by
  subst hW0
  obtain ⟨p, n, c, rfl, hn⟩ := hv.shape
  have hnn : n = l.length := hn
  have hlt := hb.lt
  have HGN : Hid (w.heap.size ≠ b) := by show w.heap.size ≠ b; omega
  have HV := Lib.hid hv
  have HN := Lib.hid hnn
  have hnl : n ≤ 1000000 := by rw [hnn]; exact hl
  have hbx := below_new w (.cells #[.slice p n c, .int .i64 f, .int .i64 t, .int .i64 h, .int .i64 u] 49)
  have H0 := Lib.hid (hb.on hbx)
  have HBX := Lib.hid (hbx.mono (show W0.heap.size ≤ w.heap.size by omega))
  have HG0 := Lib.hid (heap_alloc_new w (.cells #[.slice p n c, .int .i64 f, .int .i64 t, .int .i64 h, .int .i64 u] 49))
  have HW := Lib.hid hw
  have HWF : Hid (wscan l f t h u = pbytes n 1 ++ wpicks l ++ pbytes f 1 ++ pbytes t 1 ++ pbytes (pairI h u) 1) := by rw [hnn]; rfl
  have p1 := pbytes_length n 1
  have p2 := pbytes_length f 1
  have p3 := pbytes_length t 1
  obtain ⟨A1, hA1⟩ : ∃ A, A = a ++ pbytes n 1 := ⟨_, rfl⟩
  obtain ⟨A2, hA2⟩ : ∃ A, A = A1 ++ wpicks l := ⟨_, rfl⟩
  obtain ⟨A3, hA3⟩ : ∃ A, A = A2 ++ pbytes f 1 := ⟨_, rfl⟩
  obtain ⟨A4, hA4⟩ : ∃ A, A = A3 ++ pbytes t 1 := ⟨_, rfl⟩
  have hwl := wpicks_length l
  have l1 : A1.length ≤ 1000004 := by rw [hA1, List.length_append]; omega
  have l2 : A2.length ≤ 13000008 := by rw [hA2, List.length_append]; omega
  have l3 : A3.length ≤ 13000012 := by rw [hA3, List.length_append]; omega
  have l4 : A4.length ≤ 13000016 := by rw [hA4, List.length_append]; omega
  have HFIN : Hid (a ++ wscan l f t h u = A4 ++ pbytes (pairI h u) 1) := by
    unfold Hid
    rw [HWF.out, hA4, hA3, hA2, hA1]
    simp
  have HA2 := Lib.hid hA2
  have K1 := Lib.hid fun x hx => wnum_kept W0.heap.size b a n 1 x hx (by omega)
  rw [← hA1] at K1
  have K2 := Lib.hid fun x hx => wnum_kept W0.heap.size b A2 f 1 x hx (by omega)
  rw [← hA3] at K2
  have K3 := Lib.hid fun x hx => wnum_kept W0.heap.size b A3 t 1 x hx (by omega)
  rw [← hA4] at K3
  have K4 := Lib.hid fun x hx => wpair_kept W0.heap.size b A4 h u x hx (by omega)
  rw [← HFIN.out] at K4
  clear hA1 hA2 hA3 hA4 l2 l3 l4 p1 p2 p3 hn hnn hv hb hbx hw ha HWF hlt hl hwl
  go_enter Tryd.func30, Tryd.ntmps30
  go_upto_region 2 with (go_at_call 31; refine (K1.out _ H0.out).mono ?_; rintro e w4 ⟨rfl, hr, hb, hk⟩; have H4 := Lib.hid hr; have B4 := Lib.hid (HBX.out.trans hb); have g4 := kept_row HG0.out hk HGN.out (by decide); have G4 := Lib.hid g4; have x4 : w4.cell? ⟨w.heap.size, 0, none⟩ = some (.slice p n c) := Lib.cell_of_heap g4 0; clear hr hb hk g4 K1)
  clear H0 HBX HG0
  go_wp2
  clear x4
  go_loopw [14] (fun i wr => ∃ k : Nat, i = .int .i64 k ∧ k ≤ n ∧ Bld W0.heap.size b (A1 ++ wpicks (l.take k)) wr ∧ wr.heap[w.heap.size]? = some (.cells #[.slice p n c, .int .i64 f, .int .i64 t, .int .i64 h, .int .i64 u] 49 (0, 0)) ∧ Below W0.heap.size w wr) (fun i _ => n - (intOf i).toNat)
  case atStart => exact ⟨0, rfl, Nat.zero_le _, by simpa [wpicks] using H4.out, G4.out, B4.out⟩
  case round =>
    obtain ⟨k, rfl, hk, hr, hg, hb⟩ := hrel
    have HR := Lib.hid hr
    have HB := Lib.hid hb
    have HG := Lib.hid hg
    have hbl := hr.lt
    clear hr hb hg
    by_cases hlt : k < n
    · have hkl : k < l.length := by rw [← HN.out]; exact hlt
      obtain ⟨q, o, d, hvv, hbl', hc⟩ := (HV.out.on cellsK_size (HW.out.trans HB.out)).lies (by omega)
      simp only [Value.slice.injEq] at hvv
      obtain ⟨rfl, hy1, hy2⟩ := hvv
      clear hy1 hy2
      obtain ⟨x0, x1, x2⟩ := pick_cells hc hkl
      have HT : Hid (l.take (k + 1) = l.take k ++ [l[k]]) := List.take_succ_eq_append_getElem hkl
      have hlw := wpicks_length (l.take k)
      have hlk : (l.take k).length ≤ k := List.length_take_le _ _
      obtain ⟨D, hD⟩ : ∃ D, D = A1 ++ wpicks (l.take k) := ⟨_, rfl⟩
      rw [← hD] at HR
      have hDl : D.length ≤ 20000000 := by rw [hD, List.length_append]; omega
      have HD : Hid (A1 ++ wpicks (l.take (k + 1)) = D ++ pbytes l[k].1 1 ++ pbytes (pairI l[k].2.1 l[k].2.2) 1) := by
        unfold Hid
        rw [HT.out, wpicks_snoc, hD]
        simp
      have p1 := pbytes_length l[k].1 1
      generalize l[k].1 = a1 at *
      generalize l[k].2.1 = a2 at *
      generalize l[k].2.2 = a3 at *
      obtain ⟨D1, hD1⟩ : ∃ A, A = D ++ pbytes a1 1 := ⟨_, rfl⟩
      have l1 : D1.length ≤ 20000004 := by rw [hD1, List.length_append]; omega
      rw [← hD1] at HD
      have K1 := Lib.hid fun x hx => wnum_kept W0.heap.size b D a1 1 x hx (by omega)
      rw [← hD1] at K1
      have K5 := Lib.hid fun x hx => wpair_kept W0.heap.size b D1 a2 a3 x hx (by omega)
      rw [← HD.out] at K5
      have hbx := below_new wr (.cells #[.int .i64 a1, .int .i64 a2, .int .i64 a3] 117)
      have H0 := Lib.hid (HR.out.on hbx)
      have HBX := Lib.hid (HB.out.trans (hbx.mono (show W0.heap.size ≤ wr.heap.size by omega)))
      have HG0 := Lib.hid (heap_alloc_new wr (.cells #[.int .i64 a1, .int .i64 a2, .int .i64 a3] 117))
      have HG1 := Lib.hid ((Below.heap_alloc wr (.cells #[.int .i64 a1, .int .i64 a2, .int .i64 a3] 117) _ (Array.getElem?_eq_some_iff.1 HG.out).1).trans HG.out)
      have HGN2 : Hid (wr.heap.size ≠ b) := by show wr.heap.size ≠ b; omega
      clear hD hD1 hDl l1 p1 hlw hlk hc hbl hbl' hkl hbx HT
      go_wp2_with (first
        | (go_at_call 31; refine (K1.out _ H0.out).mono ?_; rintro e w1 ⟨rfl, hr, hb, hk⟩; have H1 := Lib.hid hr; have B1 := Lib.hid (HBX.out.trans hb); have g1 := kept_row HG0.out hk HGN2.out (by decide); have G1 := Lib.hid (kept_row HG1.out hk HGN.out (by decide)); have z1 : w1.cell? ⟨wr.heap.size, 1, none⟩ = some (.int .i64 a2) := Lib.cell_of_heap g1 1; have z2 : w1.cell? ⟨wr.heap.size, 2, none⟩ = some (.int .i64 a3) := Lib.cell_of_heap g1 2; clear hr hb hk g1 K1)
        | (go_at_call 51; refine (K5.out _ H1.out).mono ?_; rintro e w2 ⟨rfl, hr, hb, hk⟩; have H2 := Lib.hid hr; have B2 := Lib.hid (B1.out.trans hb); have G2 := Lib.hid (kept_row G1.out hk HGN.out (by decide)); clear hr hb hk K5))
      go_roundw
      case rel => exact ⟨k + 1, by go_num, by omega, H2.out, G2.out, B2.out⟩
      case measure => simp [intOf]; omega
    · obtain rfl : k = n := by omega
      have HF : Hid (Bld W0.heap.size b A2 wr) := by
        have := HR.out
        rw [show k = l.length from HN.out, List.take_length] at this
        unfold Hid
        rw [HA2.out]
        exact this
      have x1 : wr.cell? ⟨w.heap.size, 1, none⟩ = some (.int .i64 f) := Lib.cell_of_heap HG.out 1
      clear HR
      go_wp2_with (first
        | (go_at_call 31; refine (K2.out _ HF.out).mono ?_; rintro e w5 ⟨rfl, hr, hb, hk⟩; have H5 := Lib.hid hr; have B5 := Lib.hid (HB.out.trans hb); have g5 := kept_row HG.out hk HGN.out (by decide); have G5 := Lib.hid g5; have x5 : w5.cell? ⟨w.heap.size, 2, none⟩ = some (.int .i64 t) := Lib.cell_of_heap g5 2; clear hr hb hk g5 K2)
        | (go_at_call 31; refine (K3.out _ H5.out).mono ?_; rintro e w6 ⟨rfl, hr, hb, hk⟩; have H6 := Lib.hid hr; have B6 := Lib.hid (B5.out.trans hb); have g6 := kept_row G5.out hk HGN.out (by decide); have x6 : w6.cell? ⟨w.heap.size, 3, none⟩ = some (.int .i64 h) := Lib.cell_of_heap g6 3; have x7 : w6.cell? ⟨w.heap.size, 4, none⟩ = some (.int .i64 u) := Lib.cell_of_heap g6 4; clear hr hb hk g6 K3)
        | (go_at_call 51; refine (K4.out _ H6.out).mono ?_; rintro e w7 ⟨rfl, hr, hb, hk⟩; have H7 := Lib.hid hr; have B7 := Lib.hid (B6.out.trans hb); clear hr hb hk K4))
      go_end0
      exact ⟨rfl, H7.out, B7.out⟩
/-! The writer: tables of codes. -/
/-- The bytes of the first k counts. -/
def wcnts (c : Nat → Nat) (k : Nat) : List UInt8 := (List.range k).flatMap fun i => pbytes (c i : Nat) 1
theorem wcnts_succ (c : Nat → Nat) (k : Nat) : wcnts c (k + 1) = wcnts c k ++ pbytes (c k : Nat) 1 := by
  unfold wcnts
  rw [List.range_succ, List.flatMap_append]
  simp
theorem wcnts_length (c : Nat → Nat) : ∀ k, (wcnts c k).length ≤ 4 * k
  | 0 => by simp [wcnts]
  | k + 1 => by
    have := wcnts_length c k
    have := pbytes_length (c k : Nat) 1
    rw [wcnts_succ, List.length_append]
    omega
/-- The bytes of a table of codes. -/
def whuff (x : HT) : List UInt8 := pbytes (pairI x.1 x.2.1) 1 ++ wcnts x.2.2.1 16 ++ x.2.2.2.data.toList
def whuffs (l : List HT) : List UInt8 := l.flatMap whuff
theorem whuffs_snoc (l : List HT) (x : HT) : whuffs (l ++ [x]) = whuffs l ++ pbytes (pairI x.1 x.2.1) 1 ++ wcnts x.2.2.1 16 ++ x.2.2.2.data.toList := by
  simp [whuffs, whuff]
/-- A store of a whole struct into the block made just before: a letter for the world behind. -/
theorem wpList_store_freshR {ops : Array Oper} {rest : List Oper} {o : Oper} {a : Act} {w : World} {Q : Exit → Act → World → Prop} (hgd : o.guard = none) (ty : TypeId) (x y : Operand) (ho : o.op = .store ty x y)
    (cs old : Array Value) (hx : a.eval x = .pointer (some ⟨w.heap.size, 0, none⟩)) (hy : a.eval y = .agg cs) (hi : (Tryd.prog.info? ty).map (·.size) = some cs.size) (hold : old.size = cs.size) (h1 : cs.all (·.oneCell') = true)
    (h : ∀ w', w'.heap[w.heap.size]? = some (.cells cs ty (0, 0)) → Below w.heap.size w w' → wpList Tryd.prog ops Q rest (a.put o.dst undef) w') : wpList Tryd.prog ops Q (o :: rest) a (w.alloc (.cells old ty)) :=
  wpList_store_row hgd ty x y ho w.heap.size _ hx hy ty old (heap_alloc_new _ _) hi hold h1 (h _ (setRow_heap _ _ _ _ ty (0, 0) (heap_alloc_new _ _)) (below_setRow (below_new _ _) (Nat.le_refl _) _))
/-- A cell of an array that is a value. -/
theorem run_index_arr {t e : TypeId} {n : Nat} {i : TypeInfo} (hu : Tryd.prog.underlying t = some (.array n e)) (hi : Tryd.prog.info? e = some i) (hc : Tryd.prog.cellsOf e = 1) (he : Tryd.prog.plainKey e = true) (cs : Array Value) (j : Nat) (hj : j < n) (v : Value) (hv : cs[j]? = some v) (W : World) :
    (Instr.index t (.agg cs) (.int .i64 j)).run Tryd.prog W = .ok v W := by
  unfold Instr.index
  simp only [asIntOf, Sem.run_bind, Sem.run_pure, Result.andThen_ok, run_underlying hu]
  rw [if_pos (by omega)]
  simp only [Sem.run_bind, run_sizeOf W hi, Result.andThen_ok, hc, Nat.mul_one]
  exact run_part_plain W he (by simpa using hv)
theorem info_5 : ∃ i, Tryd.prog.info? 5 = some i := Option.isSome_iff_exists.1 (by kernel_rfl)
theorem info_63 : ∃ i, Tryd.prog.info? 63 = some i := Option.isSome_iff_exists.1 (by kernel_rfl)
theorem index_cnt (c : Nat → Nat) (j : Nat) (hj : j < 16) (W : World) : (Instr.index 71 (.agg (cnt c)) (.int .i64 j)).run Tryd.prog W = .ok (.int .u8 (c j : Nat)) W := by
  obtain ⟨i, hi⟩ := info_5
  exact run_index_arr Tryd.underlying71 hi (by kernel_rfl) (by simp [Program.plainKey, Tryd.underlying5]) _ j hj _ (cnt_at c j hj) W
theorem index_blk (f : Nat → Int) (j : Nat) (hj : j < 64) (W : World) : (Instr.index 64 (.agg (blk .u16 f)) (.int .i64 j)).run Tryd.prog W = .ok (.int .u16 (f j)) W := by
  obtain ⟨i, hi⟩ := info_63
  exact run_index_arr Tryd.underlying64 hi (by kernel_rfl) (by simp [Program.plainKey, Tryd.underlying63]) _ j hj _ (blk_at .u16 f j hj) W
set_option maxHeartbeats 4000000 in
set_option maxRecDepth 100000 in
theorem huffs_w (B b : Nat) (a : List UInt8) (v : Value) (l : List HT) (hl : l.length ≤ 1000000) (_ha : a.length + (whuffs l).length ≤ 100000000) (hla : ∀ k, k ≤ l.length → a.length + (whuffs (l.take k)).length ≤ 100000000) (hcc : ∀ x ∈ l, ∀ i, i < 16 → x.2.2.1 i < 256) (W0 : World) (hW0 : W0.heap.size = B) (hv : RowV 19 cellsH v l W0) (w : World) (hw : Below B W0 w) (hb : Bld B b a w) :
    Calls Tryd.prog 28 #[.pointer (some ⟨b, 0, none⟩), .agg #[v]] w fun e w' => e = .returned (.tuple #[]) ∧ Bld B b (a ++ whuffs l) w' ∧ Below B w w' := by
  subst hW0
  obtain ⟨p, n, c, rfl, hn⟩ := hv.shape
  have hnn : n = l.length := hn
  have hlt := hb.lt
  have HV := Lib.hid hv
  have HN := Lib.hid hnn
  have hnl : n ≤ 1000000 := by rw [hnn]; exact hl
  have HLA := Lib.hid hla
  have HCT := Lib.hid hcc
  have hbx := below_new w (.cells #[.slice p n c] 70)
  have H0 := Lib.hid (hb.on hbx)
  have HBX := Lib.hid (hbx.mono (show W0.heap.size ≤ w.heap.size by omega))
  have HW := Lib.hid hw
  clear hn hnn hv hb hbx hw hlt hl hla hcc
  go_enter Tryd.func28, Tryd.ntmps28
  go_wp2
  go_loopw [11] (fun i wr => ∃ k : Nat, i = .int .i64 k ∧ k ≤ n ∧ Bld W0.heap.size b (a ++ whuffs (l.take k)) wr ∧ Below W0.heap.size w wr) (fun i _ => n - (intOf i).toNat)
  case atStart => exact ⟨0, rfl, Nat.zero_le _, by simpa [whuffs] using H0.out, HBX.out⟩
  case round =>
    obtain ⟨k, rfl, hk, hr, hb⟩ := hrel
    have HR := Lib.hid hr
    have HB := Lib.hid hb
    have hbl := hr.lt
    clear hr hb
    by_cases hlt : k < n
    · have hkl : k < l.length := by rw [← HN.out]; exact hlt
      obtain ⟨q, o, d, hvv, hbl', hc⟩ := (HV.out.on cellsH_size (HW.out.trans HB.out)).lies (by omega)
      simp only [Value.slice.injEq] at hvv
      obtain ⟨rfl, hy1, hy2⟩ := hvv
      clear hy1 hy2
      have HC := Lib.hid (fun j (hj : j < (cellsH l[k]).size) => (show wr.cell? ⟨q, o + k * 19 + j, none⟩ = (cellsH l[k])[j]? from by rw [Nat.add_assoc]; exact hc k hkl j (by rw [cellsH_size] at hj; exact hj)))
      have HT : Hid (l.take (k + 1) = l.take k ++ [l[k]]) := List.take_succ_eq_append_getElem hkl
      have hlb := HLA.out (k + 1) hkl
      rw [HT.out, whuffs_snoc] at hlb
      obtain ⟨D, hD⟩ : ∃ D, D = a ++ whuffs (l.take k) := ⟨_, rfl⟩
      rw [← hD] at HR
      have HD : Hid (a ++ whuffs (l.take (k + 1)) = D ++ pbytes (pairI l[k].1 l[k].2.1) 1 ++ wcnts l[k].2.2.1 16 ++ l[k].2.2.2.data.toList) := by
        unfold Hid
        rw [HT.out, whuffs_snoc, hD]
        simp
      have hDl : D.length + (pbytes (pairI l[k].1 l[k].2.1) 1).length + (wcnts l[k].2.2.1 16).length + l[k].2.2.2.size ≤ 100000000 := by
        have e : l[k].2.2.2.data.toList.length = l[k].2.2.2.size := by simp
        rw [hD, List.length_append, ← e]
        simp only [List.length_append] at hlb
        omega
      have HCX := Lib.hid (HCT.out l[k] (List.getElem_mem hkl))
      generalize l[k] = x at *
      obtain ⟨a1, a2, cc, S⟩ := x
      simp only [] at HD hDl HCX
      obtain ⟨D1, hD1⟩ : ∃ A, A = D ++ pbytes (pairI a1 a2) 1 := ⟨_, rfl⟩
      have l1 : D1.length + (wcnts cc 16).length + S.size ≤ 100000000 := by rw [hD1, List.length_append]; omega
      rw [← hD1] at HD
      have K1 := Lib.hid fun x hx => wpair_kept W0.heap.size b D a1 a2 x hx (by omega)
      rw [← hD1] at K1
      have HL1 := Lib.hid l1
      clear hD hD1 hDl hlb hc hbl' hkl HT l1
      have HGN : Hid (wr.heap.size ≠ b) := by show wr.heap.size ≠ b; omega
      have HBs : Hid (W0.heap.size ≤ wr.heap.size) := by show W0.heap.size ≤ wr.heap.size; omega
      go_upto_region 4 with (first
        | refine wpList_load_at rfl 74 _ rfl Tryd.underlying74 rfl q (o + k * 19) rfl (cellsH (a1, a2, cc, S)) (size74 _) HC.out ?_
        | (refine wpList_store_freshR rfl 74 _ _ rfl (cellsH (a1, a2, cc, S)) _ rfl rfl (size74 _) ((cellsH_size (0, 0, fun _ => 0, ⟨#[]⟩)).trans (cellsH_size _).symm) (cellsH_one _) ?_; intro W g1 g2; have G1 := Lib.hid g1; have H1 := Lib.hid (HR.out.on (g2.mono (Nat.le_refl _))); have B1 := Lib.hid (HB.out.trans (g2.mono HBs.out)); have x0 : W.cell? ⟨wr.heap.size, 0, none⟩ = some (.int .i64 a1) := (by rw [Lib.cell_of_heap g1, cellsH_get]; rfl); have x1 : W.cell? ⟨wr.heap.size, 1, none⟩ = some (.int .i64 a2) := (by rw [Lib.cell_of_heap g1, cellsH_get]; rfl); clear g1 g2))
      generalize wr.heap.size = P at *
      go_upto_region 5 with (go_at_call 51; refine (K1.out _ H1.out).mono ?_; rintro e w2 ⟨rfl, hr, hb, hk⟩; have H2 := Lib.hid hr; have B2 := Lib.hid (B1.out.trans hb); have g2 := kept_row G1.out hk HGN.out (by decide); have G2 := Lib.hid g2; clear hr hb hk g2 K1)
      clear x0 x1 H1 B1 G1
      go_wp2_with (refine wpList_load_at rfl 71 _ rfl Tryd.underlying71 rfl P 2 rfl (cnt cc) (size22 cc) (cnt_cells G2.out) ?_)
      go_loopw [23] (fun i wq => ∃ j : Nat, i = .int .i64 j ∧ j ≤ 16 ∧ Bld W0.heap.size b (D1 ++ wcnts cc j) wq ∧ wq.heap[P]? = some (.cells (cellsH (a1, a2, cc, S)) 74 (0, 0)) ∧ Below W0.heap.size w wq) (fun i _ => 16 - (intOf i).toNat)
      case atStart => exact ⟨0, rfl, Nat.zero_le _, by simpa [wcnts] using H2.out, G2.out, B2.out⟩
      case round =>
        obtain ⟨j, rfl, hj, hr, hg, hb⟩ := hrel
        have HR3 := Lib.hid hr
        have HB3 := Lib.hid hb
        have HG3 := Lib.hid hg
        have hwl := wcnts_length cc j
        have hl1 : D1.length ≤ 100000000 := by have := HL1.out; omega
        clear hr hb hg
        by_cases hj16 : j < 16
        · have hx := fun W => index_cnt cc j hj16 W
          have hx2 := HCX.out j hj16
          have HS : Hid (wcnts cc (j + 1) = wcnts cc j ++ pbytes (cc j : Nat) 1) := wcnts_succ cc j
          have K2 := Lib.hid (wnum_kept W0.heap.size b (D1 ++ wcnts cc j) (cc j : Nat) 1 wr HR3.out (by rw [List.length_append]; omega))
          rw [List.append_assoc, ← HS.out] at K2
          generalize cc j = z at *
          go_wp2_with (go_at_call 31; refine K2.out.mono ?_; rintro e w4 ⟨rfl, hr, hb, hk⟩; have H4 := Lib.hid hr; have B4 := Lib.hid (HB3.out.trans hb); have G4 := Lib.hid (kept_row HG3.out hk HGN.out (by decide)); clear hr hb hk K2)
          go_roundw
          case rel => exact ⟨j + 1, by go_num, by omega, H4.out, G4.out, B4.out⟩
          case measure => simp [intOf]; omega
        · obtain rfl : j = 16 := by omega
          have x18 : wr.cell? ⟨P, 18, none⟩ = some (.string S) := by rw [Lib.cell_of_heap HG3.out, cellsH_get]; rfl
          have hbd : Below wr.heap.size wr wr.drew := Below.drew (Below.refl _ _)
          have KW := Lib.hid (WriteString_kept W0.heap.size b (D1 ++ wcnts cc 16) S wr.drew (HR3.out.on hbd) (by rw [List.length_append]; have := HL1.out; omega) (by have := HR3.out.lt; show W0.heap.size ≤ wr.heap.size; omega))
          rw [← HD.out] at KW
          have HBD := Lib.hid (HB3.out.trans (Below.drew (Below.refl W0.heap.size wr)))
          clear hbd
          go_wp2
          go_region_with (go_at_call 26; refine KW.out.mono ?_; rintro e w5 ⟨rfl, hr, hb, hk⟩)
          all_goals
            have H5 := Lib.hid hr
            have B5 := Lib.hid (HBD.out.trans hb)
            clear hr hb hk
            go_wp2
            go_roundw
            case rel => exact ⟨k + 1, by go_num, by omega, H5.out, B5.out⟩
            case measure => simp [intOf]; omega
    · obtain rfl : k = n := by omega
      have HF : Hid (Bld W0.heap.size b (a ++ whuffs l) wr) := by
        have := HR.out
        rwa [show k = l.length from HN.out, List.take_length] at this
      go_wp2
      go_end0
      exact ⟨rfl, HF.out, HB.out⟩
/-! The writer: quantization tables. -/
/-- Whether a number is of two bytes, as a number. -/
def wideI (b : Bool) : Int := if b = true then 1 else 0
/-- The bytes of the first k entries, in the order of a file. -/
def wents (f : Nat → Int) (m : Int) (k : Nat) : List UInt8 := (List.range k).flatMap fun i => pbytes (f (zz i)) m
theorem wents_succ (f : Nat → Int) (m : Int) (k : Nat) : wents f m (k + 1) = wents f m k ++ pbytes (f (zz k)) m := by
  unfold wents
  rw [List.range_succ, List.flatMap_append]
  simp
theorem wents_length (f : Nat → Int) (m : Int) : ∀ k, (wents f m k).length ≤ 4 * k
  | 0 => by simp [wents]
  | k + 1 => by
    have := wents_length f m k
    have := pbytes_length (f (zz k)) m
    rw [wents_succ, List.length_append]
    omega
/-- The bytes of a quantization table. -/
def wquant (x : QT) : List UInt8 := pbytes (pairI (wideI x.2.1) x.1) 1 ++ wents x.2.2 (1 + wideI x.2.1) 64
def wquants (l : List QT) : List UInt8 := l.flatMap wquant
theorem wquants_snoc (l : List QT) (x : QT) : wquants (l ++ [x]) = wquants l ++ pbytes (pairI (wideI x.2.1) x.1) 1 ++ wents x.2.2 (1 + wideI x.2.1) 64 := by
  simp [wquants, wquant]
set_option maxHeartbeats 4000000 in
set_option maxRecDepth 100000 in
theorem quants_w (B b : Nat) (a : List UInt8) (v : Value) (l : List QT) (hl : l.length ≤ 1000000) (hla : ∀ k, k ≤ l.length → a.length + (wquants (l.take k)).length ≤ 100000000) (hcc : ∀ x ∈ l, ∀ i, i < 64 → 0 ≤ x.2.2 i ∧ x.2.2 i < 65536) (W0 : World) (hT0 : Tab W0) (hW0 : W0.heap.size = B) (hv : RowV 66 cellsQ v l W0) (w : World) (hw : Below B W0 w) (hb : Bld B b a w) :
    Calls Tryd.prog 27 #[.pointer (some ⟨b, 0, none⟩), .agg #[v]] w fun e w' => e = .returned (.tuple #[]) ∧ Bld B b (a ++ wquants l) w' ∧ Below B w w' := by
  subst hW0
  obtain ⟨p, n, c, rfl, hn⟩ := hv.shape
  have hnn : n = l.length := hn
  have hlt := hb.lt
  have HV := Lib.hid hv
  have HTB := Lib.hid hT0
  have HN := Lib.hid hnn
  have hnl : n ≤ 1000000 := by rw [hnn]; exact hl
  have HLA := Lib.hid hla
  have HCT := Lib.hid hcc
  have hbx := below_new w (.cells #[.slice p n c] 62)
  have H0 := Lib.hid (hb.on hbx)
  have HBX := Lib.hid (hbx.mono (show W0.heap.size ≤ w.heap.size by omega))
  have HW := Lib.hid hw
  clear hn hnn hv hb hbx hw hlt hl hla hcc hT0
  go_enter Tryd.func27, Tryd.ntmps27
  go_wp2
  go_loopw [12] (fun i wr => ∃ k : Nat, i = .int .i64 k ∧ k ≤ n ∧ Bld W0.heap.size b (a ++ wquants (l.take k)) wr ∧ Below W0.heap.size w wr) (fun i _ => n - (intOf i).toNat)
  case atStart => exact ⟨0, rfl, Nat.zero_le _, by simpa [wquants] using H0.out, HBX.out⟩
  case round =>
    obtain ⟨k, rfl, hk, hr, hb⟩ := hrel
    have HR := Lib.hid hr
    have HB := Lib.hid hb
    have hbl := hr.lt
    clear hr hb
    by_cases hlt : k < n
    · have hkl : k < l.length := by rw [← HN.out]; exact hlt
      obtain ⟨q, o, d, hvv, hbl', hc⟩ := (HV.out.on cellsQ_size (HW.out.trans HB.out)).lies (by omega)
      simp only [Value.slice.injEq] at hvv
      obtain ⟨rfl, hy1, hy2⟩ := hvv
      clear hy1 hy2
      have HC := Lib.hid (fun j (hj : j < (cellsQ l[k]).size) => (show wr.cell? ⟨q, o + k * 66 + j, none⟩ = (cellsQ l[k])[j]? from by rw [Nat.add_assoc]; exact hc k hkl j (by rw [cellsQ_size] at hj; exact hj)))
      have HT : Hid (l.take (k + 1) = l.take k ++ [l[k]]) := List.take_succ_eq_append_getElem hkl
      have hlb := HLA.out (k + 1) hkl
      rw [HT.out, wquants_snoc] at hlb
      obtain ⟨D, hD⟩ : ∃ D, D = a ++ wquants (l.take k) := ⟨_, rfl⟩
      rw [← hD] at HR
      have HD : Hid (a ++ wquants (l.take (k + 1)) = D ++ pbytes (pairI (wideI l[k].2.1) l[k].1) 1 ++ wents l[k].2.2 (1 + wideI l[k].2.1) 64) := by
        unfold Hid
        rw [HT.out, wquants_snoc, hD]
        simp
      have hDl : D.length + (pbytes (pairI (wideI l[k].2.1) l[k].1) 1).length + (wents l[k].2.2 (1 + wideI l[k].2.1) 64).length ≤ 100000000 := by
        rw [hD, List.length_append]
        simp only [List.length_append] at hlb
        omega
      have HCX := Lib.hid (HCT.out l[k] (List.getElem_mem hkl))
      generalize l[k] = x at *
      obtain ⟨a1, a2, f⟩ := x
      simp only [] at HD hDl HCX
      obtain ⟨D1, hD1⟩ : ∃ A, A = D ++ pbytes (pairI (wideI a2) a1) 1 := ⟨_, rfl⟩
      have l1 : D1.length + (wents f (1 + wideI a2) 64).length ≤ 100000000 := by rw [hD1, List.length_append]; omega
      rw [← hD1] at HD
      have K1 := Lib.hid fun x hx => wpair_kept W0.heap.size b D (wideI a2) a1 x hx (by omega)
      rw [← hD1] at K1
      have HL1 := Lib.hid l1
      clear hD hD1 hDl hlb hc hbl' hkl HT l1
      have HGN : Hid (wr.heap.size ≠ b) := by show wr.heap.size ≠ b; omega
      have HBs : Hid (W0.heap.size ≤ wr.heap.size) := by show W0.heap.size ≤ wr.heap.size; omega
      have HZ0 : Hid (wr.heap.size ≠ 0) := by have := HTB.out.1; show wr.heap.size ≠ 0; omega
      obtain ⟨wd, hwd⟩ : ∃ wd, wd = wideI a2 := ⟨_, rfl⟩
      rw [← hwd] at HD HL1 K1
      obtain ⟨M, hM⟩ : ∃ M : Int, M = 1 + wd := ⟨_, rfl⟩
      rw [← hM] at HD HL1
      cases a2
      all_goals
        have hwd2 := hwd
        simp only [wideI] at hwd2
        simp only [Bool.false_eq_true, if_false, if_true] at hwd2
        subst hwd2
        clear hwd
        simp only [show (1 : Int) + 0 = 1 from rfl, show (1 : Int) + 1 = 2 from rfl] at hM
        have HMM := Lib.hid hM
        clear hM
        go_upto_region 7 with (first
          | refine wpList_load_at rfl 67 _ rfl Tryd.underlying67 rfl q (o + k * 66) rfl (cellsQ (a1, _, f)) (size67Q _) HC.out ?_
          | (refine wpList_store_freshR rfl 67 _ _ rfl (cellsQ (a1, _, f)) _ rfl rfl (size67Q _) (zero67_size.trans (cellsQ_size _).symm) (cellsQ_one _) ?_; intro W g1 g2; have G1 := Lib.hid g1; have H1 := Lib.hid (HR.out.on (g2.mono (Nat.le_refl _))); have B1 := Lib.hid (HB.out.trans (g2.mono HBs.out)); have x0 : W.cell? ⟨wr.heap.size, 0, none⟩ = some (.int .i64 a1) := (by rw [Lib.cell_of_heap g1, cellsQ_0]); have x1 : W.cell? ⟨wr.heap.size, 1, none⟩ = some (.bool _) := (by rw [Lib.cell_of_heap g1, cellsQ_1]); clear g1 g2))
        generalize wr.heap.size = P at *
        go_upto_region 8 with (go_at_call 51; refine (K1.out _ H1.out).mono ?_; rintro e w2 ⟨rfl, hr, hb, hk⟩; have H2 := Lib.hid hr; have B2 := Lib.hid (B1.out.trans hb); have g2 := kept_row G1.out hk HGN.out (by decide); have G2 := Lib.hid g2; clear hr hb hk g2 K1)
        clear x0 x1 H1 B1 G1
        have HR2 := Lib.hid (fun j (hj : j < (blk .u16 f).size) => (show w2.cell? ⟨P, 2 + j, none⟩ = (blk .u16 f)[j]? from by rw [blk_size] at hj; rw [Lib.cell_of_heap G2.out, cellsQ_at _ j hj, blk_at _ _ _ hj]))
        have KZ := Lib.hid (ZigU f w2 (HTB.out.on (HW.out.trans B2.out)))
        go_wp2_with (first
          | refine wpList_load_at rfl 64 _ rfl Tryd.underlying64 rfl P 2 rfl (blk .u16 f) (sizeB64 f) HR2.out ?_
          | (go_at_call 52; refine KZ.out.mono ?_; rintro e w3 ⟨rfl, hb⟩; have H3 := Lib.hid (H2.out.on hb); have B3 := Lib.hid (B2.out.trans (hb.mono (by have := H2.out.lt; omega))); clear hb KZ))
        go_loopw [26] (fun i wq => ∃ j : Nat, i = .int .i64 j ∧ j ≤ 64 ∧ Bld W0.heap.size b (D1 ++ wents f M j) wq ∧ Below W0.heap.size w wq) (fun i _ => 64 - (intOf i).toNat)
        case atStart => exact ⟨0, rfl, Nat.zero_le _, by simpa [wents] using H3.out, B3.out⟩
        case round =>
          obtain ⟨j, rfl, hj, hr, hb⟩ := hrel
          have HR3 := Lib.hid hr
          have HB3 := Lib.hid hb
          have hwl := wents_length f M j
          have hl1 : D1.length ≤ 100000000 := by have := HL1.out; omega
          clear hr hb
          by_cases hj16 : j < 64
          · have hx := fun W => index_blk (fun k => f (zz k)) j hj16 W
            have hx2 := HCX.out (zz j) (zz_lt j hj16)
            have HS : Hid (wents f M (j + 1) = wents f M j ++ pbytes (f (zz j)) M) := wents_succ f M j
            have K2 := Lib.hid (wnum_kept W0.heap.size b (D1 ++ wents f M j) (f (zz j)) M wr HR3.out (by rw [List.length_append]; omega))
            rw [List.append_assoc, ← HS.out] at K2
            have K3 : Hid (∀ M', M = M' → Calls Tryd.prog 31 #[.pointer (some ⟨b, 0, none⟩), .int .i64 (f (zz j)), .int .i64 M'] wr fun e w' => e = .returned (.tuple #[]) ∧ Bld W0.heap.size b (D1 ++ wents f M (j + 1)) w' ∧ Below W0.heap.size wr w' ∧ Lib.OthersKept 5 (some b) wr w') := by
              rintro _ rfl
              exact K2.out
            clear K2
            generalize f (zz j) = z at *
            go_wp2_with (go_at_call 31; refine (K3.out _ HMM.out).mono ?_; rintro e w4 ⟨rfl, hr, hb, hk⟩; have H4 := Lib.hid hr; have B4 := Lib.hid (HB3.out.trans hb); clear hr hb hk K3)
            go_roundw
            case rel => exact ⟨j + 1, by go_num, by omega, H4.out, B4.out⟩
            case measure => simp [intOf]; omega
          · obtain rfl : j = 64 := by omega
            rw [← HD.out] at HR3
            go_wp2
            go_roundw
            case rel => exact ⟨k + 1, by go_num, by omega, HR3.out, HB3.out⟩
            case measure => simp [intOf]; omega
    · obtain rfl : k = n := by omega
      have HF : Hid (Bld W0.heap.size b (a ++ wquants l) wr) := by
        have := HR.out
        rwa [show k = l.length from HN.out, List.take_length] at this
      go_wp2
      go_end0
      exact ⟨rfl, HF.out, HB.out⟩
/-! The bytes of a segment with a body: all that can come of it. -/
/-! The bytes of a segment with a body: all that can come of it. -/
theorem bool_no {b : Bool} {R : Prop} (h : b = true ↔ R) (hR : ¬ R) : b = false := by
  cases b
  · rfl
  · exact absurd (h.1 rfl) hR
theorem perr_size {z : Int} {S : ByteArray} (h : perr z S = 0) : S.size ≤ 65533 := by
  unfold perr at h
  by_cases h1 : refu z ≠ 0
  · rw [if_pos h1] at h; exact absurd h h1
  · rw [if_neg h1] at h
    by_cases h2 : 65533 < S.size
    · rw [if_pos h2] at h; cases h
    · omega
/-- What is answered: the bytes, if just what is meant is read of the body; else it is refused. -/
def WholeP (z : Int) (S : ByteArray) (R : Prop) (w : World) (e : Ending) (w' : World) : Prop :=
  ((perr z S = 0 ∧ R ∧ e = .returned (.tuple #[.string ⟨(wbytes z S).toArray⟩, .int .i64 0])) ∨ (¬ (perr z S = 0 ∧ R) ∧ e = .returned (.tuple #[.string ⟨#[]⟩, .int .i64 1]))) ∧ Below w.heap.size w w'
theorem meth62 (v : Value) (w : World) : (method 295 62 v "Code").run Tryd.prog w = .ok (105, v) w := by kernel_rfl
theorem meth70 (v : Value) (w : World) : (method 295 70 v "Code").run Tryd.prog w = .ok (106, v) w := by kernel_rfl
theorem meth44 (v : Value) (w : World) : (method 295 44 v "Code").run Tryd.prog w = .ok (102, v) w := by kernel_rfl
theorem meth49 (v : Value) (w : World) : (method 295 49 v "Code").run Tryd.prog w = .ok (103, v) w := by kernel_rfl
theorem meth98 (v : Value) (w : World) : (method 295 98 v "Code").run Tryd.prog w = .ok (110, v) w := by kernel_rfl
set_option maxHeartbeats 2000000 in
set_option maxRecDepth 100000 in
theorem whole_yes62 (v : Value) (z : Int) (S : ByteArray) (hS : S.size ≤ 65533) (Ψ : World → Prop) (Φ : Value → World → Prop)
    (hΨ : ∀ x x', Ψ x → Below x.heap.size x x' → Ψ x')
    (hC : ∀ w, Calls Tryd.prog 105 #[v] w fun e w' => e = .returned (.int .i64 z) ∧ Below w.heap.size w w')
    (hP : ∀ w, Ψ w → Calls Tryd.prog 9 #[.int .i64 z, .string S] w fun e w' => ∃ A, e = .returned (.tuple #[A, .int .i64 0]) ∧ Φ A w' ∧ Below w.heap.size w w')
    (hA : ∀ A w, Φ A w → Ψ w → Calls Tryd.prog 54 #[.iface 62 v, A] w fun e w' => e = .returned (.bool true) ∧ Below w.heap.size w w')
    (L : List UInt8) (hL : L = wbytes z S) (w : World) (hw : Ψ w) :
    Calls Tryd.prog 32 #[.iface 62 v, .string S] w fun e w' => e = .returned (.tuple #[.string ⟨L.toArray⟩, .int .i64 0]) ∧ Below w.heap.size w w' := by
  have HC := Lib.hid hC
  have HP := Lib.hid hP
  have HA := Lib.hid hA
  have HK := Lib.hid hΨ
  have HW := Lib.hid hw
  have HL := Lib.hid hL
  have hneg : ¬ 9223372036854775807 < (S.size : Int) + 2 := by omega
  have hwr : wrap64 ((S.size : Int) + 2) = (S.size : Int) + 2 := wrap64_small _ (by omega) (by omega)
  have hm := meth62 v
  clear hC hP hA hΨ hw hL
  go_enter Tryd.func32, Tryd.ntmps32
  go_upto_region 4 with (first
    | (go_at_call 105; refine (HC.out _).mono ?_; rintro e w1 ⟨rfl, hb1⟩; have HB1 := Lib.hid hb1; have HW1 := Lib.hid (HK.out _ _ HW.out hb1); clear hb1)
    | (go_at_call 9; refine (HP.out _ HW1.out).mono ?_; rintro e w2 ⟨A, rfl, hf, hb2⟩; have HF2 := Lib.hid hf; have HB2 := Lib.hid (HB1.out.trans (hb2.mono HB1.out.size)); have HW2 := Lib.hid (HK.out _ _ HW1.out hb2); clear hb2 hf)
    | (go_at_call 54; refine (HA.out A _ HF2.out HW2.out).mono ?_; rintro e w3 ⟨rfl, hb3⟩; have HB3 := Lib.hid (HB2.out.trans (hb3.mono HB2.out.size)); clear hb3))
  have HBL := Lib.hid (Bld.new w3)
  have HB4 := Lib.hid (HB3.out.alloc HB3.out.size (.cells #[.pointer none, .slice none 0 0] 95))
  have hs3 := HB3.out.size
  go_upto_region 5 with fail
  obtain ⟨g, hg⟩ : ∃ g, g = w3.heap.size := ⟨_, rfl⟩
  obtain ⟨w4, hw4⟩ : ∃ w4, w4 = w3.alloc (.cells #[.pointer none, .slice none 0 0] 95) := ⟨_, rfl⟩
  rw [← hg, ← hw4] at HBL
  rw [← hw4] at HB4
  rw [← hg] at hs3
  rw [← hg, ← hw4]
  have hp1 := pbytes_length z 1
  obtain ⟨L1, hL1⟩ : ∃ L1, L1 = [] ++ [255] ++ pbytes z 1 := ⟨_, rfl⟩
  obtain ⟨L2, hL2⟩ : ∃ L2, L2 = L1 ++ pbytes ((S.size : Int) + 2) 2 := ⟨_, rfl⟩
  have hl1 : L1.length ≤ 5 := by rw [hL1]; simp; omega
  have hl2 : L2.length ≤ 9 := by rw [hL2, List.length_append]; have := pbytes_length ((S.size : Int) + 2) 2; omega
  have HM : Hid (∀ x, Bld g g [] x → Calls Tryd.prog 49 #[.pointer (some ⟨g, 0, none⟩), .int .i64 z] x fun e w' => e = .returned (.tuple #[]) ∧ Bld g g L1 w' ∧ Below g x w') := fun x hx => by
    rw [hL1]
    exact marker_any g g [] z x hx (by simp)
  have HN : Hid (∀ x, Bld g g L1 x → Calls Tryd.prog 31 #[.pointer (some ⟨g, 0, none⟩), .int .i64 ((S.size : Int) + 2), .int .i64 2] x fun e w' => e = .returned (.tuple #[]) ∧ Bld g g L2 w' ∧ Below g x w') := fun x hx => by
    rw [hL2]
    exact wnum_any g g L1 ((S.size : Int) + 2) 2 x hx (by omega)
  have HSt : Hid (∀ x, Bld g g L2 x → Calls Tryd.prog 26 #[.pointer (some ⟨g, 0, none⟩), .string S] x fun e w' => e = .returned (.tuple #[.int .i64 S.size, .nilIface]) ∧ Bld g g L w' ∧ Below g x w') := fun x hx => by
    rw [HL.out, wbytes, ← hL1, ← hL2]
    exact WriteString_any g g L2 S x hx (by omega) (by have := hx.lt; omega)
  have HTt : Hid (∀ x, Bld g g L x → Calls Tryd.prog 33 #[.pointer (some ⟨g, 0, none⟩)] x fun e w' => e = .returned (.string ⟨L.toArray⟩) ∧ Below g x w') := fun x hx =>
    String_some g g L x hx (by rw [HL.out]; simp [wbytes])
  clear hL1 hL2 hl1 hl2 hp1 HL hg hw4
  go_wp2_with (first
    | (go_at_call 105; refine (HC.out _).mono ?_; rintro e w5 ⟨rfl, hb5⟩; have HBL5 := Lib.hid (HBL.out.on hb5); have HB5 := Lib.hid (HB4.out.trans (hb5.mono HB4.out.size)); clear hb5)
    | (go_at_call 49; refine (HM.out w5 HBL5.out).mono ?_; rintro e w6 ⟨rfl, hr, hb6⟩; have H6 := Lib.hid hr; have HB6 := Lib.hid (HB5.out.trans (hb6.mono hs3)); clear hr hb6)
    | (go_at_call 31; refine (HN.out w6 H6.out).mono ?_; rintro e w7 ⟨rfl, hr, hb7⟩; have H7 := Lib.hid hr; have HB7 := Lib.hid (HB6.out.trans (hb7.mono hs3)); clear hr hb7)
    | (go_at_call 26; refine (HSt.out w7 H7.out).mono ?_; rintro e w8 ⟨rfl, hr, hb8⟩; have H8 := Lib.hid hr; have HB8 := Lib.hid (HB7.out.trans (hb8.mono hs3)); clear hr hb8)
    | (go_at_call 33; refine (HTt.out w8 H8.out).mono ?_; rintro e w9 ⟨rfl, hb9⟩; have HB9 := Lib.hid (HB8.out.trans (hb9.mono hs3)); clear hb9))
  go_ret2
  exact ⟨rfl, HB9.out⟩
set_option maxHeartbeats 2000000 in
set_option maxRecDepth 100000 in
theorem whole_err62 (v : Value) (z : Int) (S : ByteArray) (E : Int) (hE : E ≠ 0) (Ψ : World → Prop) (hΨ : ∀ x x', Ψ x → Below x.heap.size x x' → Ψ x')
    (hC : ∀ w, Calls Tryd.prog 105 #[v] w fun e w' => e = .returned (.int .i64 z) ∧ Below w.heap.size w w')
    (hP : ∀ w, Ψ w → Calls Tryd.prog 9 #[.int .i64 z, .string S] w fun e w' => e = .returned (.tuple #[.nilIface, .int .i64 E]) ∧ Below w.heap.size w w') (w : World) (hw : Ψ w) :
    Calls Tryd.prog 32 #[.iface 62 v, .string S] w fun e w' => e = .returned (.tuple #[.string ⟨#[]⟩, .int .i64 1]) ∧ Below w.heap.size w w' := by
  have HC := Lib.hid hC
  have HP := Lib.hid hP
  have HK := Lib.hid hΨ
  have HW := Lib.hid hw
  have hm := meth62 v
  have e0 : (E != 0) = true := by rw [bne_iff_ne]; exact hE
  clear hC hP hΨ hw hE
  go_enter Tryd.func32, Tryd.ntmps32
  go_wp2_with (first
    | (go_at_call 105; refine (HC.out _).mono ?_; rintro e w1 ⟨rfl, hb1⟩; have HB1 := Lib.hid hb1; have HW1 := Lib.hid (HK.out _ _ HW.out hb1); clear hb1)
    | (go_at_call 9; refine (HP.out _ HW1.out).mono ?_; rintro e w2 ⟨rfl, hb2⟩; have HB2 := Lib.hid (HB1.out.trans (hb2.mono HB1.out.size)); clear hb2))
  go_ret2
  exact ⟨rfl, HB2.out⟩
set_option maxHeartbeats 2000000 in
set_option maxRecDepth 100000 in
theorem whole_no62 (v : Value) (z : Int) (S : ByteArray) (Ψ : World → Prop) (Φ : Value → World → Prop) (hΨ : ∀ x x', Ψ x → Below x.heap.size x x' → Ψ x')
    (hC : ∀ w, Calls Tryd.prog 105 #[v] w fun e w' => e = .returned (.int .i64 z) ∧ Below w.heap.size w w')
    (hP : ∀ w, Ψ w → Calls Tryd.prog 9 #[.int .i64 z, .string S] w fun e w' => ∃ A, e = .returned (.tuple #[A, .int .i64 0]) ∧ Φ A w' ∧ Below w.heap.size w w')
    (hA : ∀ A w, Φ A w → Ψ w → Calls Tryd.prog 54 #[.iface 62 v, A] w fun e w' => e = .returned (.bool false) ∧ Below w.heap.size w w') (w : World) (hw : Ψ w) :
    Calls Tryd.prog 32 #[.iface 62 v, .string S] w fun e w' => e = .returned (.tuple #[.string ⟨#[]⟩, .int .i64 1]) ∧ Below w.heap.size w w' := by
  have HC := Lib.hid hC
  have HP := Lib.hid hP
  have HA := Lib.hid hA
  have HK := Lib.hid hΨ
  have HW := Lib.hid hw
  have hm := meth62 v
  clear hC hP hA hΨ hw
  go_enter Tryd.func32, Tryd.ntmps32
  go_wp2_with (first
    | (go_at_call 105; refine (HC.out _).mono ?_; rintro e w1 ⟨rfl, hb1⟩; have HB1 := Lib.hid hb1; have HW1 := Lib.hid (HK.out _ _ HW.out hb1); clear hb1)
    | (go_at_call 9; refine (HP.out _ HW1.out).mono ?_; rintro e w2 ⟨A, rfl, hf, hb2⟩; have HF2 := Lib.hid hf; have HB2 := Lib.hid (HB1.out.trans (hb2.mono HB1.out.size)); have HW2 := Lib.hid (HK.out _ _ HW1.out hb2); clear hb2 hf)
    | (go_at_call 54; refine (HA.out A _ HF2.out HW2.out).mono ?_; rintro e w3 ⟨rfl, hb3⟩; have HB3 := Lib.hid (HB2.out.trans (hb3.mono HB2.out.size)); clear hb3))
  go_ret2
  exact ⟨rfl, HB3.out⟩
/-- What is written: all that can come. -/
theorem whole62 (v : Value) (z : Int) (S : ByteArray) (R : Prop) (Ψ : World → Prop) (hΨ : ∀ x x', Ψ x → Below x.heap.size x x' → Ψ x') (hT : ∀ w, Ψ w → Tab w)
    (hC : ∀ w, Calls Tryd.prog 105 #[v] w fun e w' => e = .returned (.int .i64 z) ∧ Below w.heap.size w w')
    (hA : ∀ B A w, perr z S = 0 → SegV B (rseg z S).1 A w → Ψ w → Calls Tryd.prog 54 #[.iface 62 v, A] w fun e w' => ∃ b, e = .returned (.bool b) ∧ (b = true ↔ R) ∧ Below w.heap.size w w') (w : World) (hw : Ψ w) :
    Calls Tryd.prog 32 #[.iface 62 v, .string S] w fun e w' => WholeP z S R w e w' := by
  by_cases he : perr z S = 0
  · have hs := perr_size he
    have hP : ∀ w, Ψ w → Calls Tryd.prog 9 #[.int .i64 z, .string S] w fun e w' => ∃ A, e = .returned (.tuple #[A, .int .i64 0]) ∧ (∃ B, SegV B (rseg z S).1 A w') ∧ Below w.heap.size w w' := fun w hw => (Parse_any z S w (hT w hw)).mono fun e w' h => by
      rcases h.1 with ⟨_, V, h1, h2⟩ | ⟨h1, _⟩
      · exact ⟨V, h1, ⟨_, h2⟩, h.2⟩
      · exact absurd he h1
    by_cases hR : R
    · refine (whole_yes62 v z S hs Ψ (fun A x => ∃ B, SegV B (rseg z S).1 A x) hΨ hC hP (fun A x ⟨B, h1⟩ h2 => (hA B A x he h1 h2).mono fun e w' ⟨b, a1, a2, a3⟩ => ⟨by rw [a1, a2.2 hR], a3⟩) _ rfl w hw).mono fun e w' ⟨h1, h2⟩ => ⟨.inl ⟨he, hR, h1⟩, h2⟩
    · refine (whole_no62 v z S Ψ (fun A x => ∃ B, SegV B (rseg z S).1 A x) hΨ hC hP (fun A x ⟨B, h1⟩ h2 => (hA B A x he h1 h2).mono fun e w' ⟨b, a1, a2, a3⟩ => ⟨by rw [a1, bool_no a2 hR], a3⟩) w hw).mono fun e w' ⟨h1, h2⟩ => ⟨.inr ⟨fun h => hR h.2, h1⟩, h2⟩
  · refine (whole_err62 v z S (perr z S : Nat) (by omega) Ψ hΨ hC (fun w hw => (Parse_any z S w (hT w hw)).mono fun e w' h => by
      rcases h.1 with ⟨h1, _⟩ | ⟨_, h2⟩
      · exact absurd h1 he
      · exact ⟨h2, h.2⟩) w hw).mono fun e w' ⟨h1, h2⟩ => ⟨.inr ⟨fun h => he h.1, h1⟩, h2⟩
/-! The bytes of a segment with a body: all that can come of it; the other kinds. -/
set_option maxHeartbeats 2000000 in
set_option maxRecDepth 100000 in
theorem whole_yes70 (v : Value) (z : Int) (S : ByteArray) (hS : S.size ≤ 65533) (Ψ : World → Prop) (Φ : Value → World → Prop)
    (hΨ : ∀ x x', Ψ x → Below x.heap.size x x' → Ψ x')
    (hC : ∀ w, Calls Tryd.prog 106 #[v] w fun e w' => e = .returned (.int .i64 z) ∧ Below w.heap.size w w')
    (hP : ∀ w, Ψ w → Calls Tryd.prog 9 #[.int .i64 z, .string S] w fun e w' => ∃ A, e = .returned (.tuple #[A, .int .i64 0]) ∧ Φ A w' ∧ Below w.heap.size w w')
    (hA : ∀ A w, Φ A w → Ψ w → Calls Tryd.prog 54 #[.iface 70 v, A] w fun e w' => e = .returned (.bool true) ∧ Below w.heap.size w w')
    (L : List UInt8) (hL : L = wbytes z S) (w : World) (hw : Ψ w) :
    Calls Tryd.prog 32 #[.iface 70 v, .string S] w fun e w' => e = .returned (.tuple #[.string ⟨L.toArray⟩, .int .i64 0]) ∧ Below w.heap.size w w' := by
  have HC := Lib.hid hC
  have HP := Lib.hid hP
  have HA := Lib.hid hA
  have HK := Lib.hid hΨ
  have HW := Lib.hid hw
  have HL := Lib.hid hL
  have hneg : ¬ 9223372036854775807 < (S.size : Int) + 2 := by omega
  have hwr : wrap64 ((S.size : Int) + 2) = (S.size : Int) + 2 := wrap64_small _ (by omega) (by omega)
  have hm := meth70 v
  clear hC hP hA hΨ hw hL
  go_enter Tryd.func32, Tryd.ntmps32
  go_upto_region 4 with (first
    | (go_at_call 106; refine (HC.out _).mono ?_; rintro e w1 ⟨rfl, hb1⟩; have HB1 := Lib.hid hb1; have HW1 := Lib.hid (HK.out _ _ HW.out hb1); clear hb1)
    | (go_at_call 9; refine (HP.out _ HW1.out).mono ?_; rintro e w2 ⟨A, rfl, hf, hb2⟩; have HF2 := Lib.hid hf; have HB2 := Lib.hid (HB1.out.trans (hb2.mono HB1.out.size)); have HW2 := Lib.hid (HK.out _ _ HW1.out hb2); clear hb2 hf)
    | (go_at_call 54; refine (HA.out A _ HF2.out HW2.out).mono ?_; rintro e w3 ⟨rfl, hb3⟩; have HB3 := Lib.hid (HB2.out.trans (hb3.mono HB2.out.size)); clear hb3))
  have HBL := Lib.hid (Bld.new w3)
  have HB4 := Lib.hid (HB3.out.alloc HB3.out.size (.cells #[.pointer none, .slice none 0 0] 95))
  have hs3 := HB3.out.size
  go_upto_region 5 with fail
  obtain ⟨g, hg⟩ : ∃ g, g = w3.heap.size := ⟨_, rfl⟩
  obtain ⟨w4, hw4⟩ : ∃ w4, w4 = w3.alloc (.cells #[.pointer none, .slice none 0 0] 95) := ⟨_, rfl⟩
  rw [← hg, ← hw4] at HBL
  rw [← hw4] at HB4
  rw [← hg] at hs3
  rw [← hg, ← hw4]
  have hp1 := pbytes_length z 1
  obtain ⟨L1, hL1⟩ : ∃ L1, L1 = [] ++ [255] ++ pbytes z 1 := ⟨_, rfl⟩
  obtain ⟨L2, hL2⟩ : ∃ L2, L2 = L1 ++ pbytes ((S.size : Int) + 2) 2 := ⟨_, rfl⟩
  have hl1 : L1.length ≤ 5 := by rw [hL1]; simp; omega
  have hl2 : L2.length ≤ 9 := by rw [hL2, List.length_append]; have := pbytes_length ((S.size : Int) + 2) 2; omega
  have HM : Hid (∀ x, Bld g g [] x → Calls Tryd.prog 49 #[.pointer (some ⟨g, 0, none⟩), .int .i64 z] x fun e w' => e = .returned (.tuple #[]) ∧ Bld g g L1 w' ∧ Below g x w') := fun x hx => by
    rw [hL1]
    exact marker_any g g [] z x hx (by simp)
  have HN : Hid (∀ x, Bld g g L1 x → Calls Tryd.prog 31 #[.pointer (some ⟨g, 0, none⟩), .int .i64 ((S.size : Int) + 2), .int .i64 2] x fun e w' => e = .returned (.tuple #[]) ∧ Bld g g L2 w' ∧ Below g x w') := fun x hx => by
    rw [hL2]
    exact wnum_any g g L1 ((S.size : Int) + 2) 2 x hx (by omega)
  have HSt : Hid (∀ x, Bld g g L2 x → Calls Tryd.prog 26 #[.pointer (some ⟨g, 0, none⟩), .string S] x fun e w' => e = .returned (.tuple #[.int .i64 S.size, .nilIface]) ∧ Bld g g L w' ∧ Below g x w') := fun x hx => by
    rw [HL.out, wbytes, ← hL1, ← hL2]
    exact WriteString_any g g L2 S x hx (by omega) (by have := hx.lt; omega)
  have HTt : Hid (∀ x, Bld g g L x → Calls Tryd.prog 33 #[.pointer (some ⟨g, 0, none⟩)] x fun e w' => e = .returned (.string ⟨L.toArray⟩) ∧ Below g x w') := fun x hx =>
    String_some g g L x hx (by rw [HL.out]; simp [wbytes])
  clear hL1 hL2 hl1 hl2 hp1 HL hg hw4
  go_wp2_with (first
    | (go_at_call 106; refine (HC.out _).mono ?_; rintro e w5 ⟨rfl, hb5⟩; have HBL5 := Lib.hid (HBL.out.on hb5); have HB5 := Lib.hid (HB4.out.trans (hb5.mono HB4.out.size)); clear hb5)
    | (go_at_call 49; refine (HM.out w5 HBL5.out).mono ?_; rintro e w6 ⟨rfl, hr, hb6⟩; have H6 := Lib.hid hr; have HB6 := Lib.hid (HB5.out.trans (hb6.mono hs3)); clear hr hb6)
    | (go_at_call 31; refine (HN.out w6 H6.out).mono ?_; rintro e w7 ⟨rfl, hr, hb7⟩; have H7 := Lib.hid hr; have HB7 := Lib.hid (HB6.out.trans (hb7.mono hs3)); clear hr hb7)
    | (go_at_call 26; refine (HSt.out w7 H7.out).mono ?_; rintro e w8 ⟨rfl, hr, hb8⟩; have H8 := Lib.hid hr; have HB8 := Lib.hid (HB7.out.trans (hb8.mono hs3)); clear hr hb8)
    | (go_at_call 33; refine (HTt.out w8 H8.out).mono ?_; rintro e w9 ⟨rfl, hb9⟩; have HB9 := Lib.hid (HB8.out.trans (hb9.mono hs3)); clear hb9))
  go_ret2
  exact ⟨rfl, HB9.out⟩
set_option maxHeartbeats 2000000 in
set_option maxRecDepth 100000 in
theorem whole_err70 (v : Value) (z : Int) (S : ByteArray) (E : Int) (hE : E ≠ 0) (Ψ : World → Prop) (hΨ : ∀ x x', Ψ x → Below x.heap.size x x' → Ψ x')
    (hC : ∀ w, Calls Tryd.prog 106 #[v] w fun e w' => e = .returned (.int .i64 z) ∧ Below w.heap.size w w')
    (hP : ∀ w, Ψ w → Calls Tryd.prog 9 #[.int .i64 z, .string S] w fun e w' => e = .returned (.tuple #[.nilIface, .int .i64 E]) ∧ Below w.heap.size w w') (w : World) (hw : Ψ w) :
    Calls Tryd.prog 32 #[.iface 70 v, .string S] w fun e w' => e = .returned (.tuple #[.string ⟨#[]⟩, .int .i64 1]) ∧ Below w.heap.size w w' := by
  have HC := Lib.hid hC
  have HP := Lib.hid hP
  have HK := Lib.hid hΨ
  have HW := Lib.hid hw
  have hm := meth70 v
  have e0 : (E != 0) = true := by rw [bne_iff_ne]; exact hE
  clear hC hP hΨ hw hE
  go_enter Tryd.func32, Tryd.ntmps32
  go_wp2_with (first
    | (go_at_call 106; refine (HC.out _).mono ?_; rintro e w1 ⟨rfl, hb1⟩; have HB1 := Lib.hid hb1; have HW1 := Lib.hid (HK.out _ _ HW.out hb1); clear hb1)
    | (go_at_call 9; refine (HP.out _ HW1.out).mono ?_; rintro e w2 ⟨rfl, hb2⟩; have HB2 := Lib.hid (HB1.out.trans (hb2.mono HB1.out.size)); clear hb2))
  go_ret2
  exact ⟨rfl, HB2.out⟩
set_option maxHeartbeats 2000000 in
set_option maxRecDepth 100000 in
theorem whole_no70 (v : Value) (z : Int) (S : ByteArray) (Ψ : World → Prop) (Φ : Value → World → Prop) (hΨ : ∀ x x', Ψ x → Below x.heap.size x x' → Ψ x')
    (hC : ∀ w, Calls Tryd.prog 106 #[v] w fun e w' => e = .returned (.int .i64 z) ∧ Below w.heap.size w w')
    (hP : ∀ w, Ψ w → Calls Tryd.prog 9 #[.int .i64 z, .string S] w fun e w' => ∃ A, e = .returned (.tuple #[A, .int .i64 0]) ∧ Φ A w' ∧ Below w.heap.size w w')
    (hA : ∀ A w, Φ A w → Ψ w → Calls Tryd.prog 54 #[.iface 70 v, A] w fun e w' => e = .returned (.bool false) ∧ Below w.heap.size w w') (w : World) (hw : Ψ w) :
    Calls Tryd.prog 32 #[.iface 70 v, .string S] w fun e w' => e = .returned (.tuple #[.string ⟨#[]⟩, .int .i64 1]) ∧ Below w.heap.size w w' := by
  have HC := Lib.hid hC
  have HP := Lib.hid hP
  have HA := Lib.hid hA
  have HK := Lib.hid hΨ
  have HW := Lib.hid hw
  have hm := meth70 v
  clear hC hP hA hΨ hw
  go_enter Tryd.func32, Tryd.ntmps32
  go_wp2_with (first
    | (go_at_call 106; refine (HC.out _).mono ?_; rintro e w1 ⟨rfl, hb1⟩; have HB1 := Lib.hid hb1; have HW1 := Lib.hid (HK.out _ _ HW.out hb1); clear hb1)
    | (go_at_call 9; refine (HP.out _ HW1.out).mono ?_; rintro e w2 ⟨A, rfl, hf, hb2⟩; have HF2 := Lib.hid hf; have HB2 := Lib.hid (HB1.out.trans (hb2.mono HB1.out.size)); have HW2 := Lib.hid (HK.out _ _ HW1.out hb2); clear hb2 hf)
    | (go_at_call 54; refine (HA.out A _ HF2.out HW2.out).mono ?_; rintro e w3 ⟨rfl, hb3⟩; have HB3 := Lib.hid (HB2.out.trans (hb3.mono HB2.out.size)); clear hb3))
  go_ret2
  exact ⟨rfl, HB3.out⟩
/-- What is written: all that can come. -/
theorem whole70 (v : Value) (z : Int) (S : ByteArray) (R : Prop) (Ψ : World → Prop) (hΨ : ∀ x x', Ψ x → Below x.heap.size x x' → Ψ x') (hT : ∀ w, Ψ w → Tab w)
    (hC : ∀ w, Calls Tryd.prog 106 #[v] w fun e w' => e = .returned (.int .i64 z) ∧ Below w.heap.size w w')
    (hA : ∀ B A w, perr z S = 0 → SegV B (rseg z S).1 A w → Ψ w → Calls Tryd.prog 54 #[.iface 70 v, A] w fun e w' => ∃ b, e = .returned (.bool b) ∧ (b = true ↔ R) ∧ Below w.heap.size w w') (w : World) (hw : Ψ w) :
    Calls Tryd.prog 32 #[.iface 70 v, .string S] w fun e w' => WholeP z S R w e w' := by
  by_cases he : perr z S = 0
  · have hs := perr_size he
    have hP : ∀ w, Ψ w → Calls Tryd.prog 9 #[.int .i64 z, .string S] w fun e w' => ∃ A, e = .returned (.tuple #[A, .int .i64 0]) ∧ (∃ B, SegV B (rseg z S).1 A w') ∧ Below w.heap.size w w' := fun w hw => (Parse_any z S w (hT w hw)).mono fun e w' h => by
      rcases h.1 with ⟨_, V, h1, h2⟩ | ⟨h1, _⟩
      · exact ⟨V, h1, ⟨_, h2⟩, h.2⟩
      · exact absurd he h1
    by_cases hR : R
    · refine (whole_yes70 v z S hs Ψ (fun A x => ∃ B, SegV B (rseg z S).1 A x) hΨ hC hP (fun A x ⟨B, h1⟩ h2 => (hA B A x he h1 h2).mono fun e w' ⟨b, a1, a2, a3⟩ => ⟨by rw [a1, a2.2 hR], a3⟩) _ rfl w hw).mono fun e w' ⟨h1, h2⟩ => ⟨.inl ⟨he, hR, h1⟩, h2⟩
    · refine (whole_no70 v z S Ψ (fun A x => ∃ B, SegV B (rseg z S).1 A x) hΨ hC hP (fun A x ⟨B, h1⟩ h2 => (hA B A x he h1 h2).mono fun e w' ⟨b, a1, a2, a3⟩ => ⟨by rw [a1, bool_no a2 hR], a3⟩) w hw).mono fun e w' ⟨h1, h2⟩ => ⟨.inr ⟨fun h => hR h.2, h1⟩, h2⟩
  · refine (whole_err70 v z S (perr z S : Nat) (by omega) Ψ hΨ hC (fun w hw => (Parse_any z S w (hT w hw)).mono fun e w' h => by
      rcases h.1 with ⟨h1, _⟩ | ⟨_, h2⟩
      · exact absurd h1 he
      · exact ⟨h2, h.2⟩) w hw).mono fun e w' ⟨h1, h2⟩ => ⟨.inr ⟨fun h => he h.1, h1⟩, h2⟩
set_option maxHeartbeats 2000000 in
set_option maxRecDepth 100000 in
theorem whole_yes44 (v : Value) (z : Int) (S : ByteArray) (hS : S.size ≤ 65533) (Ψ : World → Prop) (Φ : Value → World → Prop)
    (hΨ : ∀ x x', Ψ x → Below x.heap.size x x' → Ψ x')
    (hC : ∀ w, Calls Tryd.prog 102 #[v] w fun e w' => e = .returned (.int .i64 z) ∧ Below w.heap.size w w')
    (hP : ∀ w, Ψ w → Calls Tryd.prog 9 #[.int .i64 z, .string S] w fun e w' => ∃ A, e = .returned (.tuple #[A, .int .i64 0]) ∧ Φ A w' ∧ Below w.heap.size w w')
    (hA : ∀ A w, Φ A w → Ψ w → Calls Tryd.prog 54 #[.iface 44 v, A] w fun e w' => e = .returned (.bool true) ∧ Below w.heap.size w w')
    (L : List UInt8) (hL : L = wbytes z S) (w : World) (hw : Ψ w) :
    Calls Tryd.prog 32 #[.iface 44 v, .string S] w fun e w' => e = .returned (.tuple #[.string ⟨L.toArray⟩, .int .i64 0]) ∧ Below w.heap.size w w' := by
  have HC := Lib.hid hC
  have HP := Lib.hid hP
  have HA := Lib.hid hA
  have HK := Lib.hid hΨ
  have HW := Lib.hid hw
  have HL := Lib.hid hL
  have hneg : ¬ 9223372036854775807 < (S.size : Int) + 2 := by omega
  have hwr : wrap64 ((S.size : Int) + 2) = (S.size : Int) + 2 := wrap64_small _ (by omega) (by omega)
  have hm := meth44 v
  clear hC hP hA hΨ hw hL
  go_enter Tryd.func32, Tryd.ntmps32
  go_upto_region 4 with (first
    | (go_at_call 102; refine (HC.out _).mono ?_; rintro e w1 ⟨rfl, hb1⟩; have HB1 := Lib.hid hb1; have HW1 := Lib.hid (HK.out _ _ HW.out hb1); clear hb1)
    | (go_at_call 9; refine (HP.out _ HW1.out).mono ?_; rintro e w2 ⟨A, rfl, hf, hb2⟩; have HF2 := Lib.hid hf; have HB2 := Lib.hid (HB1.out.trans (hb2.mono HB1.out.size)); have HW2 := Lib.hid (HK.out _ _ HW1.out hb2); clear hb2 hf)
    | (go_at_call 54; refine (HA.out A _ HF2.out HW2.out).mono ?_; rintro e w3 ⟨rfl, hb3⟩; have HB3 := Lib.hid (HB2.out.trans (hb3.mono HB2.out.size)); clear hb3))
  have HBL := Lib.hid (Bld.new w3)
  have HB4 := Lib.hid (HB3.out.alloc HB3.out.size (.cells #[.pointer none, .slice none 0 0] 95))
  have hs3 := HB3.out.size
  go_upto_region 5 with fail
  obtain ⟨g, hg⟩ : ∃ g, g = w3.heap.size := ⟨_, rfl⟩
  obtain ⟨w4, hw4⟩ : ∃ w4, w4 = w3.alloc (.cells #[.pointer none, .slice none 0 0] 95) := ⟨_, rfl⟩
  rw [← hg, ← hw4] at HBL
  rw [← hw4] at HB4
  rw [← hg] at hs3
  rw [← hg, ← hw4]
  have hp1 := pbytes_length z 1
  obtain ⟨L1, hL1⟩ : ∃ L1, L1 = [] ++ [255] ++ pbytes z 1 := ⟨_, rfl⟩
  obtain ⟨L2, hL2⟩ : ∃ L2, L2 = L1 ++ pbytes ((S.size : Int) + 2) 2 := ⟨_, rfl⟩
  have hl1 : L1.length ≤ 5 := by rw [hL1]; simp; omega
  have hl2 : L2.length ≤ 9 := by rw [hL2, List.length_append]; have := pbytes_length ((S.size : Int) + 2) 2; omega
  have HM : Hid (∀ x, Bld g g [] x → Calls Tryd.prog 49 #[.pointer (some ⟨g, 0, none⟩), .int .i64 z] x fun e w' => e = .returned (.tuple #[]) ∧ Bld g g L1 w' ∧ Below g x w') := fun x hx => by
    rw [hL1]
    exact marker_any g g [] z x hx (by simp)
  have HN : Hid (∀ x, Bld g g L1 x → Calls Tryd.prog 31 #[.pointer (some ⟨g, 0, none⟩), .int .i64 ((S.size : Int) + 2), .int .i64 2] x fun e w' => e = .returned (.tuple #[]) ∧ Bld g g L2 w' ∧ Below g x w') := fun x hx => by
    rw [hL2]
    exact wnum_any g g L1 ((S.size : Int) + 2) 2 x hx (by omega)
  have HSt : Hid (∀ x, Bld g g L2 x → Calls Tryd.prog 26 #[.pointer (some ⟨g, 0, none⟩), .string S] x fun e w' => e = .returned (.tuple #[.int .i64 S.size, .nilIface]) ∧ Bld g g L w' ∧ Below g x w') := fun x hx => by
    rw [HL.out, wbytes, ← hL1, ← hL2]
    exact WriteString_any g g L2 S x hx (by omega) (by have := hx.lt; omega)
  have HTt : Hid (∀ x, Bld g g L x → Calls Tryd.prog 33 #[.pointer (some ⟨g, 0, none⟩)] x fun e w' => e = .returned (.string ⟨L.toArray⟩) ∧ Below g x w') := fun x hx =>
    String_some g g L x hx (by rw [HL.out]; simp [wbytes])
  clear hL1 hL2 hl1 hl2 hp1 HL hg hw4
  go_wp2_with (first
    | (go_at_call 102; refine (HC.out _).mono ?_; rintro e w5 ⟨rfl, hb5⟩; have HBL5 := Lib.hid (HBL.out.on hb5); have HB5 := Lib.hid (HB4.out.trans (hb5.mono HB4.out.size)); clear hb5)
    | (go_at_call 49; refine (HM.out w5 HBL5.out).mono ?_; rintro e w6 ⟨rfl, hr, hb6⟩; have H6 := Lib.hid hr; have HB6 := Lib.hid (HB5.out.trans (hb6.mono hs3)); clear hr hb6)
    | (go_at_call 31; refine (HN.out w6 H6.out).mono ?_; rintro e w7 ⟨rfl, hr, hb7⟩; have H7 := Lib.hid hr; have HB7 := Lib.hid (HB6.out.trans (hb7.mono hs3)); clear hr hb7)
    | (go_at_call 26; refine (HSt.out w7 H7.out).mono ?_; rintro e w8 ⟨rfl, hr, hb8⟩; have H8 := Lib.hid hr; have HB8 := Lib.hid (HB7.out.trans (hb8.mono hs3)); clear hr hb8)
    | (go_at_call 33; refine (HTt.out w8 H8.out).mono ?_; rintro e w9 ⟨rfl, hb9⟩; have HB9 := Lib.hid (HB8.out.trans (hb9.mono hs3)); clear hb9))
  go_ret2
  exact ⟨rfl, HB9.out⟩
set_option maxHeartbeats 2000000 in
set_option maxRecDepth 100000 in
theorem whole_err44 (v : Value) (z : Int) (S : ByteArray) (E : Int) (hE : E ≠ 0) (Ψ : World → Prop) (hΨ : ∀ x x', Ψ x → Below x.heap.size x x' → Ψ x')
    (hC : ∀ w, Calls Tryd.prog 102 #[v] w fun e w' => e = .returned (.int .i64 z) ∧ Below w.heap.size w w')
    (hP : ∀ w, Ψ w → Calls Tryd.prog 9 #[.int .i64 z, .string S] w fun e w' => e = .returned (.tuple #[.nilIface, .int .i64 E]) ∧ Below w.heap.size w w') (w : World) (hw : Ψ w) :
    Calls Tryd.prog 32 #[.iface 44 v, .string S] w fun e w' => e = .returned (.tuple #[.string ⟨#[]⟩, .int .i64 1]) ∧ Below w.heap.size w w' := by
  have HC := Lib.hid hC
  have HP := Lib.hid hP
  have HK := Lib.hid hΨ
  have HW := Lib.hid hw
  have hm := meth44 v
  have e0 : (E != 0) = true := by rw [bne_iff_ne]; exact hE
  clear hC hP hΨ hw hE
  go_enter Tryd.func32, Tryd.ntmps32
  go_wp2_with (first
    | (go_at_call 102; refine (HC.out _).mono ?_; rintro e w1 ⟨rfl, hb1⟩; have HB1 := Lib.hid hb1; have HW1 := Lib.hid (HK.out _ _ HW.out hb1); clear hb1)
    | (go_at_call 9; refine (HP.out _ HW1.out).mono ?_; rintro e w2 ⟨rfl, hb2⟩; have HB2 := Lib.hid (HB1.out.trans (hb2.mono HB1.out.size)); clear hb2))
  go_ret2
  exact ⟨rfl, HB2.out⟩
set_option maxHeartbeats 2000000 in
set_option maxRecDepth 100000 in
theorem whole_no44 (v : Value) (z : Int) (S : ByteArray) (Ψ : World → Prop) (Φ : Value → World → Prop) (hΨ : ∀ x x', Ψ x → Below x.heap.size x x' → Ψ x')
    (hC : ∀ w, Calls Tryd.prog 102 #[v] w fun e w' => e = .returned (.int .i64 z) ∧ Below w.heap.size w w')
    (hP : ∀ w, Ψ w → Calls Tryd.prog 9 #[.int .i64 z, .string S] w fun e w' => ∃ A, e = .returned (.tuple #[A, .int .i64 0]) ∧ Φ A w' ∧ Below w.heap.size w w')
    (hA : ∀ A w, Φ A w → Ψ w → Calls Tryd.prog 54 #[.iface 44 v, A] w fun e w' => e = .returned (.bool false) ∧ Below w.heap.size w w') (w : World) (hw : Ψ w) :
    Calls Tryd.prog 32 #[.iface 44 v, .string S] w fun e w' => e = .returned (.tuple #[.string ⟨#[]⟩, .int .i64 1]) ∧ Below w.heap.size w w' := by
  have HC := Lib.hid hC
  have HP := Lib.hid hP
  have HA := Lib.hid hA
  have HK := Lib.hid hΨ
  have HW := Lib.hid hw
  have hm := meth44 v
  clear hC hP hA hΨ hw
  go_enter Tryd.func32, Tryd.ntmps32
  go_wp2_with (first
    | (go_at_call 102; refine (HC.out _).mono ?_; rintro e w1 ⟨rfl, hb1⟩; have HB1 := Lib.hid hb1; have HW1 := Lib.hid (HK.out _ _ HW.out hb1); clear hb1)
    | (go_at_call 9; refine (HP.out _ HW1.out).mono ?_; rintro e w2 ⟨A, rfl, hf, hb2⟩; have HF2 := Lib.hid hf; have HB2 := Lib.hid (HB1.out.trans (hb2.mono HB1.out.size)); have HW2 := Lib.hid (HK.out _ _ HW1.out hb2); clear hb2 hf)
    | (go_at_call 54; refine (HA.out A _ HF2.out HW2.out).mono ?_; rintro e w3 ⟨rfl, hb3⟩; have HB3 := Lib.hid (HB2.out.trans (hb3.mono HB2.out.size)); clear hb3))
  go_ret2
  exact ⟨rfl, HB3.out⟩
/-- What is written: all that can come. -/
theorem whole44 (v : Value) (z : Int) (S : ByteArray) (R : Prop) (Ψ : World → Prop) (hΨ : ∀ x x', Ψ x → Below x.heap.size x x' → Ψ x') (hT : ∀ w, Ψ w → Tab w)
    (hC : ∀ w, Calls Tryd.prog 102 #[v] w fun e w' => e = .returned (.int .i64 z) ∧ Below w.heap.size w w')
    (hA : ∀ B A w, perr z S = 0 → SegV B (rseg z S).1 A w → Ψ w → Calls Tryd.prog 54 #[.iface 44 v, A] w fun e w' => ∃ b, e = .returned (.bool b) ∧ (b = true ↔ R) ∧ Below w.heap.size w w') (w : World) (hw : Ψ w) :
    Calls Tryd.prog 32 #[.iface 44 v, .string S] w fun e w' => WholeP z S R w e w' := by
  by_cases he : perr z S = 0
  · have hs := perr_size he
    have hP : ∀ w, Ψ w → Calls Tryd.prog 9 #[.int .i64 z, .string S] w fun e w' => ∃ A, e = .returned (.tuple #[A, .int .i64 0]) ∧ (∃ B, SegV B (rseg z S).1 A w') ∧ Below w.heap.size w w' := fun w hw => (Parse_any z S w (hT w hw)).mono fun e w' h => by
      rcases h.1 with ⟨_, V, h1, h2⟩ | ⟨h1, _⟩
      · exact ⟨V, h1, ⟨_, h2⟩, h.2⟩
      · exact absurd he h1
    by_cases hR : R
    · refine (whole_yes44 v z S hs Ψ (fun A x => ∃ B, SegV B (rseg z S).1 A x) hΨ hC hP (fun A x ⟨B, h1⟩ h2 => (hA B A x he h1 h2).mono fun e w' ⟨b, a1, a2, a3⟩ => ⟨by rw [a1, a2.2 hR], a3⟩) _ rfl w hw).mono fun e w' ⟨h1, h2⟩ => ⟨.inl ⟨he, hR, h1⟩, h2⟩
    · refine (whole_no44 v z S Ψ (fun A x => ∃ B, SegV B (rseg z S).1 A x) hΨ hC hP (fun A x ⟨B, h1⟩ h2 => (hA B A x he h1 h2).mono fun e w' ⟨b, a1, a2, a3⟩ => ⟨by rw [a1, bool_no a2 hR], a3⟩) w hw).mono fun e w' ⟨h1, h2⟩ => ⟨.inr ⟨fun h => hR h.2, h1⟩, h2⟩
  · refine (whole_err44 v z S (perr z S : Nat) (by omega) Ψ hΨ hC (fun w hw => (Parse_any z S w (hT w hw)).mono fun e w' h => by
      rcases h.1 with ⟨h1, _⟩ | ⟨_, h2⟩
      · exact absurd h1 he
      · exact ⟨h2, h.2⟩) w hw).mono fun e w' ⟨h1, h2⟩ => ⟨.inr ⟨fun h => he h.1, h1⟩, h2⟩
/-! The bytes of a segment with a body: all that can come of it; the other kinds. -/
set_option maxHeartbeats 2000000 in
set_option maxRecDepth 100000 in
theorem whole_yes49 (v : Value) (z : Int) (S : ByteArray) (hS : S.size ≤ 65533) (Ψ : World → Prop) (Φ : Value → World → Prop)
    (hΨ : ∀ x x', Ψ x → Below x.heap.size x x' → Ψ x')
    (hC : ∀ w, Calls Tryd.prog 103 #[v] w fun e w' => e = .returned (.int .i64 z) ∧ Below w.heap.size w w')
    (hP : ∀ w, Ψ w → Calls Tryd.prog 9 #[.int .i64 z, .string S] w fun e w' => ∃ A, e = .returned (.tuple #[A, .int .i64 0]) ∧ Φ A w' ∧ Below w.heap.size w w')
    (hA : ∀ A w, Φ A w → Ψ w → Calls Tryd.prog 54 #[.iface 49 v, A] w fun e w' => e = .returned (.bool true) ∧ Below w.heap.size w w')
    (L : List UInt8) (hL : L = wbytes z S) (w : World) (hw : Ψ w) :
    Calls Tryd.prog 32 #[.iface 49 v, .string S] w fun e w' => e = .returned (.tuple #[.string ⟨L.toArray⟩, .int .i64 0]) ∧ Below w.heap.size w w' := by
  have HC := Lib.hid hC
  have HP := Lib.hid hP
  have HA := Lib.hid hA
  have HK := Lib.hid hΨ
  have HW := Lib.hid hw
  have HL := Lib.hid hL
  have hneg : ¬ 9223372036854775807 < (S.size : Int) + 2 := by omega
  have hwr : wrap64 ((S.size : Int) + 2) = (S.size : Int) + 2 := wrap64_small _ (by omega) (by omega)
  have hm := meth49 v
  clear hC hP hA hΨ hw hL
  go_enter Tryd.func32, Tryd.ntmps32
  go_upto_region 4 with (first
    | (go_at_call 103; refine (HC.out _).mono ?_; rintro e w1 ⟨rfl, hb1⟩; have HB1 := Lib.hid hb1; have HW1 := Lib.hid (HK.out _ _ HW.out hb1); clear hb1)
    | (go_at_call 9; refine (HP.out _ HW1.out).mono ?_; rintro e w2 ⟨A, rfl, hf, hb2⟩; have HF2 := Lib.hid hf; have HB2 := Lib.hid (HB1.out.trans (hb2.mono HB1.out.size)); have HW2 := Lib.hid (HK.out _ _ HW1.out hb2); clear hb2 hf)
    | (go_at_call 54; refine (HA.out A _ HF2.out HW2.out).mono ?_; rintro e w3 ⟨rfl, hb3⟩; have HB3 := Lib.hid (HB2.out.trans (hb3.mono HB2.out.size)); clear hb3))
  have HBL := Lib.hid (Bld.new w3)
  have HB4 := Lib.hid (HB3.out.alloc HB3.out.size (.cells #[.pointer none, .slice none 0 0] 95))
  have hs3 := HB3.out.size
  go_upto_region 5 with fail
  obtain ⟨g, hg⟩ : ∃ g, g = w3.heap.size := ⟨_, rfl⟩
  obtain ⟨w4, hw4⟩ : ∃ w4, w4 = w3.alloc (.cells #[.pointer none, .slice none 0 0] 95) := ⟨_, rfl⟩
  rw [← hg, ← hw4] at HBL
  rw [← hw4] at HB4
  rw [← hg] at hs3
  rw [← hg, ← hw4]
  have hp1 := pbytes_length z 1
  obtain ⟨L1, hL1⟩ : ∃ L1, L1 = [] ++ [255] ++ pbytes z 1 := ⟨_, rfl⟩
  obtain ⟨L2, hL2⟩ : ∃ L2, L2 = L1 ++ pbytes ((S.size : Int) + 2) 2 := ⟨_, rfl⟩
  have hl1 : L1.length ≤ 5 := by rw [hL1]; simp; omega
  have hl2 : L2.length ≤ 9 := by rw [hL2, List.length_append]; have := pbytes_length ((S.size : Int) + 2) 2; omega
  have HM : Hid (∀ x, Bld g g [] x → Calls Tryd.prog 49 #[.pointer (some ⟨g, 0, none⟩), .int .i64 z] x fun e w' => e = .returned (.tuple #[]) ∧ Bld g g L1 w' ∧ Below g x w') := fun x hx => by
    rw [hL1]
    exact marker_any g g [] z x hx (by simp)
  have HN : Hid (∀ x, Bld g g L1 x → Calls Tryd.prog 31 #[.pointer (some ⟨g, 0, none⟩), .int .i64 ((S.size : Int) + 2), .int .i64 2] x fun e w' => e = .returned (.tuple #[]) ∧ Bld g g L2 w' ∧ Below g x w') := fun x hx => by
    rw [hL2]
    exact wnum_any g g L1 ((S.size : Int) + 2) 2 x hx (by omega)
  have HSt : Hid (∀ x, Bld g g L2 x → Calls Tryd.prog 26 #[.pointer (some ⟨g, 0, none⟩), .string S] x fun e w' => e = .returned (.tuple #[.int .i64 S.size, .nilIface]) ∧ Bld g g L w' ∧ Below g x w') := fun x hx => by
    rw [HL.out, wbytes, ← hL1, ← hL2]
    exact WriteString_any g g L2 S x hx (by omega) (by have := hx.lt; omega)
  have HTt : Hid (∀ x, Bld g g L x → Calls Tryd.prog 33 #[.pointer (some ⟨g, 0, none⟩)] x fun e w' => e = .returned (.string ⟨L.toArray⟩) ∧ Below g x w') := fun x hx =>
    String_some g g L x hx (by rw [HL.out]; simp [wbytes])
  clear hL1 hL2 hl1 hl2 hp1 HL hg hw4
  go_wp2_with (first
    | (go_at_call 103; refine (HC.out _).mono ?_; rintro e w5 ⟨rfl, hb5⟩; have HBL5 := Lib.hid (HBL.out.on hb5); have HB5 := Lib.hid (HB4.out.trans (hb5.mono HB4.out.size)); clear hb5)
    | (go_at_call 49; refine (HM.out w5 HBL5.out).mono ?_; rintro e w6 ⟨rfl, hr, hb6⟩; have H6 := Lib.hid hr; have HB6 := Lib.hid (HB5.out.trans (hb6.mono hs3)); clear hr hb6)
    | (go_at_call 31; refine (HN.out w6 H6.out).mono ?_; rintro e w7 ⟨rfl, hr, hb7⟩; have H7 := Lib.hid hr; have HB7 := Lib.hid (HB6.out.trans (hb7.mono hs3)); clear hr hb7)
    | (go_at_call 26; refine (HSt.out w7 H7.out).mono ?_; rintro e w8 ⟨rfl, hr, hb8⟩; have H8 := Lib.hid hr; have HB8 := Lib.hid (HB7.out.trans (hb8.mono hs3)); clear hr hb8)
    | (go_at_call 33; refine (HTt.out w8 H8.out).mono ?_; rintro e w9 ⟨rfl, hb9⟩; have HB9 := Lib.hid (HB8.out.trans (hb9.mono hs3)); clear hb9))
  go_ret2
  exact ⟨rfl, HB9.out⟩
set_option maxHeartbeats 2000000 in
set_option maxRecDepth 100000 in
theorem whole_err49 (v : Value) (z : Int) (S : ByteArray) (E : Int) (hE : E ≠ 0) (Ψ : World → Prop) (hΨ : ∀ x x', Ψ x → Below x.heap.size x x' → Ψ x')
    (hC : ∀ w, Calls Tryd.prog 103 #[v] w fun e w' => e = .returned (.int .i64 z) ∧ Below w.heap.size w w')
    (hP : ∀ w, Ψ w → Calls Tryd.prog 9 #[.int .i64 z, .string S] w fun e w' => e = .returned (.tuple #[.nilIface, .int .i64 E]) ∧ Below w.heap.size w w') (w : World) (hw : Ψ w) :
    Calls Tryd.prog 32 #[.iface 49 v, .string S] w fun e w' => e = .returned (.tuple #[.string ⟨#[]⟩, .int .i64 1]) ∧ Below w.heap.size w w' := by
  have HC := Lib.hid hC
  have HP := Lib.hid hP
  have HK := Lib.hid hΨ
  have HW := Lib.hid hw
  have hm := meth49 v
  have e0 : (E != 0) = true := by rw [bne_iff_ne]; exact hE
  clear hC hP hΨ hw hE
  go_enter Tryd.func32, Tryd.ntmps32
  go_wp2_with (first
    | (go_at_call 103; refine (HC.out _).mono ?_; rintro e w1 ⟨rfl, hb1⟩; have HB1 := Lib.hid hb1; have HW1 := Lib.hid (HK.out _ _ HW.out hb1); clear hb1)
    | (go_at_call 9; refine (HP.out _ HW1.out).mono ?_; rintro e w2 ⟨rfl, hb2⟩; have HB2 := Lib.hid (HB1.out.trans (hb2.mono HB1.out.size)); clear hb2))
  go_ret2
  exact ⟨rfl, HB2.out⟩
set_option maxHeartbeats 2000000 in
set_option maxRecDepth 100000 in
theorem whole_no49 (v : Value) (z : Int) (S : ByteArray) (Ψ : World → Prop) (Φ : Value → World → Prop) (hΨ : ∀ x x', Ψ x → Below x.heap.size x x' → Ψ x')
    (hC : ∀ w, Calls Tryd.prog 103 #[v] w fun e w' => e = .returned (.int .i64 z) ∧ Below w.heap.size w w')
    (hP : ∀ w, Ψ w → Calls Tryd.prog 9 #[.int .i64 z, .string S] w fun e w' => ∃ A, e = .returned (.tuple #[A, .int .i64 0]) ∧ Φ A w' ∧ Below w.heap.size w w')
    (hA : ∀ A w, Φ A w → Ψ w → Calls Tryd.prog 54 #[.iface 49 v, A] w fun e w' => e = .returned (.bool false) ∧ Below w.heap.size w w') (w : World) (hw : Ψ w) :
    Calls Tryd.prog 32 #[.iface 49 v, .string S] w fun e w' => e = .returned (.tuple #[.string ⟨#[]⟩, .int .i64 1]) ∧ Below w.heap.size w w' := by
  have HC := Lib.hid hC
  have HP := Lib.hid hP
  have HA := Lib.hid hA
  have HK := Lib.hid hΨ
  have HW := Lib.hid hw
  have hm := meth49 v
  clear hC hP hA hΨ hw
  go_enter Tryd.func32, Tryd.ntmps32
  go_wp2_with (first
    | (go_at_call 103; refine (HC.out _).mono ?_; rintro e w1 ⟨rfl, hb1⟩; have HB1 := Lib.hid hb1; have HW1 := Lib.hid (HK.out _ _ HW.out hb1); clear hb1)
    | (go_at_call 9; refine (HP.out _ HW1.out).mono ?_; rintro e w2 ⟨A, rfl, hf, hb2⟩; have HF2 := Lib.hid hf; have HB2 := Lib.hid (HB1.out.trans (hb2.mono HB1.out.size)); have HW2 := Lib.hid (HK.out _ _ HW1.out hb2); clear hb2 hf)
    | (go_at_call 54; refine (HA.out A _ HF2.out HW2.out).mono ?_; rintro e w3 ⟨rfl, hb3⟩; have HB3 := Lib.hid (HB2.out.trans (hb3.mono HB2.out.size)); clear hb3))
  go_ret2
  exact ⟨rfl, HB3.out⟩
/-- What is written: all that can come. -/
theorem whole49 (v : Value) (z : Int) (S : ByteArray) (R : Prop) (Ψ : World → Prop) (hΨ : ∀ x x', Ψ x → Below x.heap.size x x' → Ψ x') (hT : ∀ w, Ψ w → Tab w)
    (hC : ∀ w, Calls Tryd.prog 103 #[v] w fun e w' => e = .returned (.int .i64 z) ∧ Below w.heap.size w w')
    (hA : ∀ B A w, perr z S = 0 → SegV B (rseg z S).1 A w → Ψ w → Calls Tryd.prog 54 #[.iface 49 v, A] w fun e w' => ∃ b, e = .returned (.bool b) ∧ (b = true ↔ R) ∧ Below w.heap.size w w') (w : World) (hw : Ψ w) :
    Calls Tryd.prog 32 #[.iface 49 v, .string S] w fun e w' => WholeP z S R w e w' := by
  by_cases he : perr z S = 0
  · have hs := perr_size he
    have hP : ∀ w, Ψ w → Calls Tryd.prog 9 #[.int .i64 z, .string S] w fun e w' => ∃ A, e = .returned (.tuple #[A, .int .i64 0]) ∧ (∃ B, SegV B (rseg z S).1 A w') ∧ Below w.heap.size w w' := fun w hw => (Parse_any z S w (hT w hw)).mono fun e w' h => by
      rcases h.1 with ⟨_, V, h1, h2⟩ | ⟨h1, _⟩
      · exact ⟨V, h1, ⟨_, h2⟩, h.2⟩
      · exact absurd he h1
    by_cases hR : R
    · refine (whole_yes49 v z S hs Ψ (fun A x => ∃ B, SegV B (rseg z S).1 A x) hΨ hC hP (fun A x ⟨B, h1⟩ h2 => (hA B A x he h1 h2).mono fun e w' ⟨b, a1, a2, a3⟩ => ⟨by rw [a1, a2.2 hR], a3⟩) _ rfl w hw).mono fun e w' ⟨h1, h2⟩ => ⟨.inl ⟨he, hR, h1⟩, h2⟩
    · refine (whole_no49 v z S Ψ (fun A x => ∃ B, SegV B (rseg z S).1 A x) hΨ hC hP (fun A x ⟨B, h1⟩ h2 => (hA B A x he h1 h2).mono fun e w' ⟨b, a1, a2, a3⟩ => ⟨by rw [a1, bool_no a2 hR], a3⟩) w hw).mono fun e w' ⟨h1, h2⟩ => ⟨.inr ⟨fun h => hR h.2, h1⟩, h2⟩
  · refine (whole_err49 v z S (perr z S : Nat) (by omega) Ψ hΨ hC (fun w hw => (Parse_any z S w (hT w hw)).mono fun e w' h => by
      rcases h.1 with ⟨h1, _⟩ | ⟨_, h2⟩
      · exact absurd h1 he
      · exact ⟨h2, h.2⟩) w hw).mono fun e w' ⟨h1, h2⟩ => ⟨.inr ⟨fun h => he h.1, h1⟩, h2⟩
set_option maxHeartbeats 2000000 in
set_option maxRecDepth 100000 in
theorem whole_yes98 (v : Value) (z : Int) (S : ByteArray) (hS : S.size ≤ 65533) (Ψ : World → Prop) (Φ : Value → World → Prop)
    (hΨ : ∀ x x', Ψ x → Below x.heap.size x x' → Ψ x')
    (hC : ∀ w, Calls Tryd.prog 110 #[v] w fun e w' => e = .returned (.int .i64 z) ∧ Below w.heap.size w w')
    (hP : ∀ w, Ψ w → Calls Tryd.prog 9 #[.int .i64 z, .string S] w fun e w' => ∃ A, e = .returned (.tuple #[A, .int .i64 0]) ∧ Φ A w' ∧ Below w.heap.size w w')
    (hA : ∀ A w, Φ A w → Ψ w → Calls Tryd.prog 54 #[.iface 98 v, A] w fun e w' => e = .returned (.bool true) ∧ Below w.heap.size w w')
    (L : List UInt8) (hL : L = wbytes z S) (w : World) (hw : Ψ w) :
    Calls Tryd.prog 32 #[.iface 98 v, .string S] w fun e w' => e = .returned (.tuple #[.string ⟨L.toArray⟩, .int .i64 0]) ∧ Below w.heap.size w w' := by
  have HC := Lib.hid hC
  have HP := Lib.hid hP
  have HA := Lib.hid hA
  have HK := Lib.hid hΨ
  have HW := Lib.hid hw
  have HL := Lib.hid hL
  have hneg : ¬ 9223372036854775807 < (S.size : Int) + 2 := by omega
  have hwr : wrap64 ((S.size : Int) + 2) = (S.size : Int) + 2 := wrap64_small _ (by omega) (by omega)
  have hm := meth98 v
  clear hC hP hA hΨ hw hL
  go_enter Tryd.func32, Tryd.ntmps32
  go_upto_region 4 with (first
    | (go_at_call 110; refine (HC.out _).mono ?_; rintro e w1 ⟨rfl, hb1⟩; have HB1 := Lib.hid hb1; have HW1 := Lib.hid (HK.out _ _ HW.out hb1); clear hb1)
    | (go_at_call 9; refine (HP.out _ HW1.out).mono ?_; rintro e w2 ⟨A, rfl, hf, hb2⟩; have HF2 := Lib.hid hf; have HB2 := Lib.hid (HB1.out.trans (hb2.mono HB1.out.size)); have HW2 := Lib.hid (HK.out _ _ HW1.out hb2); clear hb2 hf)
    | (go_at_call 54; refine (HA.out A _ HF2.out HW2.out).mono ?_; rintro e w3 ⟨rfl, hb3⟩; have HB3 := Lib.hid (HB2.out.trans (hb3.mono HB2.out.size)); clear hb3))
  have HBL := Lib.hid (Bld.new w3)
  have HB4 := Lib.hid (HB3.out.alloc HB3.out.size (.cells #[.pointer none, .slice none 0 0] 95))
  have hs3 := HB3.out.size
  go_upto_region 5 with fail
  obtain ⟨g, hg⟩ : ∃ g, g = w3.heap.size := ⟨_, rfl⟩
  obtain ⟨w4, hw4⟩ : ∃ w4, w4 = w3.alloc (.cells #[.pointer none, .slice none 0 0] 95) := ⟨_, rfl⟩
  rw [← hg, ← hw4] at HBL
  rw [← hw4] at HB4
  rw [← hg] at hs3
  rw [← hg, ← hw4]
  have hp1 := pbytes_length z 1
  obtain ⟨L1, hL1⟩ : ∃ L1, L1 = [] ++ [255] ++ pbytes z 1 := ⟨_, rfl⟩
  obtain ⟨L2, hL2⟩ : ∃ L2, L2 = L1 ++ pbytes ((S.size : Int) + 2) 2 := ⟨_, rfl⟩
  have hl1 : L1.length ≤ 5 := by rw [hL1]; simp; omega
  have hl2 : L2.length ≤ 9 := by rw [hL2, List.length_append]; have := pbytes_length ((S.size : Int) + 2) 2; omega
  have HM : Hid (∀ x, Bld g g [] x → Calls Tryd.prog 49 #[.pointer (some ⟨g, 0, none⟩), .int .i64 z] x fun e w' => e = .returned (.tuple #[]) ∧ Bld g g L1 w' ∧ Below g x w') := fun x hx => by
    rw [hL1]
    exact marker_any g g [] z x hx (by simp)
  have HN : Hid (∀ x, Bld g g L1 x → Calls Tryd.prog 31 #[.pointer (some ⟨g, 0, none⟩), .int .i64 ((S.size : Int) + 2), .int .i64 2] x fun e w' => e = .returned (.tuple #[]) ∧ Bld g g L2 w' ∧ Below g x w') := fun x hx => by
    rw [hL2]
    exact wnum_any g g L1 ((S.size : Int) + 2) 2 x hx (by omega)
  have HSt : Hid (∀ x, Bld g g L2 x → Calls Tryd.prog 26 #[.pointer (some ⟨g, 0, none⟩), .string S] x fun e w' => e = .returned (.tuple #[.int .i64 S.size, .nilIface]) ∧ Bld g g L w' ∧ Below g x w') := fun x hx => by
    rw [HL.out, wbytes, ← hL1, ← hL2]
    exact WriteString_any g g L2 S x hx (by omega) (by have := hx.lt; omega)
  have HTt : Hid (∀ x, Bld g g L x → Calls Tryd.prog 33 #[.pointer (some ⟨g, 0, none⟩)] x fun e w' => e = .returned (.string ⟨L.toArray⟩) ∧ Below g x w') := fun x hx =>
    String_some g g L x hx (by rw [HL.out]; simp [wbytes])
  clear hL1 hL2 hl1 hl2 hp1 HL hg hw4
  go_wp2_with (first
    | (go_at_call 110; refine (HC.out _).mono ?_; rintro e w5 ⟨rfl, hb5⟩; have HBL5 := Lib.hid (HBL.out.on hb5); have HB5 := Lib.hid (HB4.out.trans (hb5.mono HB4.out.size)); clear hb5)
    | (go_at_call 49; refine (HM.out w5 HBL5.out).mono ?_; rintro e w6 ⟨rfl, hr, hb6⟩; have H6 := Lib.hid hr; have HB6 := Lib.hid (HB5.out.trans (hb6.mono hs3)); clear hr hb6)
    | (go_at_call 31; refine (HN.out w6 H6.out).mono ?_; rintro e w7 ⟨rfl, hr, hb7⟩; have H7 := Lib.hid hr; have HB7 := Lib.hid (HB6.out.trans (hb7.mono hs3)); clear hr hb7)
    | (go_at_call 26; refine (HSt.out w7 H7.out).mono ?_; rintro e w8 ⟨rfl, hr, hb8⟩; have H8 := Lib.hid hr; have HB8 := Lib.hid (HB7.out.trans (hb8.mono hs3)); clear hr hb8)
    | (go_at_call 33; refine (HTt.out w8 H8.out).mono ?_; rintro e w9 ⟨rfl, hb9⟩; have HB9 := Lib.hid (HB8.out.trans (hb9.mono hs3)); clear hb9))
  go_ret2
  exact ⟨rfl, HB9.out⟩
set_option maxHeartbeats 2000000 in
set_option maxRecDepth 100000 in
theorem whole_err98 (v : Value) (z : Int) (S : ByteArray) (E : Int) (hE : E ≠ 0) (Ψ : World → Prop) (hΨ : ∀ x x', Ψ x → Below x.heap.size x x' → Ψ x')
    (hC : ∀ w, Calls Tryd.prog 110 #[v] w fun e w' => e = .returned (.int .i64 z) ∧ Below w.heap.size w w')
    (hP : ∀ w, Ψ w → Calls Tryd.prog 9 #[.int .i64 z, .string S] w fun e w' => e = .returned (.tuple #[.nilIface, .int .i64 E]) ∧ Below w.heap.size w w') (w : World) (hw : Ψ w) :
    Calls Tryd.prog 32 #[.iface 98 v, .string S] w fun e w' => e = .returned (.tuple #[.string ⟨#[]⟩, .int .i64 1]) ∧ Below w.heap.size w w' := by
  have HC := Lib.hid hC
  have HP := Lib.hid hP
  have HK := Lib.hid hΨ
  have HW := Lib.hid hw
  have hm := meth98 v
  have e0 : (E != 0) = true := by rw [bne_iff_ne]; exact hE
  clear hC hP hΨ hw hE
  go_enter Tryd.func32, Tryd.ntmps32
  go_wp2_with (first
    | (go_at_call 110; refine (HC.out _).mono ?_; rintro e w1 ⟨rfl, hb1⟩; have HB1 := Lib.hid hb1; have HW1 := Lib.hid (HK.out _ _ HW.out hb1); clear hb1)
    | (go_at_call 9; refine (HP.out _ HW1.out).mono ?_; rintro e w2 ⟨rfl, hb2⟩; have HB2 := Lib.hid (HB1.out.trans (hb2.mono HB1.out.size)); clear hb2))
  go_ret2
  exact ⟨rfl, HB2.out⟩
set_option maxHeartbeats 2000000 in
set_option maxRecDepth 100000 in
theorem whole_no98 (v : Value) (z : Int) (S : ByteArray) (Ψ : World → Prop) (Φ : Value → World → Prop) (hΨ : ∀ x x', Ψ x → Below x.heap.size x x' → Ψ x')
    (hC : ∀ w, Calls Tryd.prog 110 #[v] w fun e w' => e = .returned (.int .i64 z) ∧ Below w.heap.size w w')
    (hP : ∀ w, Ψ w → Calls Tryd.prog 9 #[.int .i64 z, .string S] w fun e w' => ∃ A, e = .returned (.tuple #[A, .int .i64 0]) ∧ Φ A w' ∧ Below w.heap.size w w')
    (hA : ∀ A w, Φ A w → Ψ w → Calls Tryd.prog 54 #[.iface 98 v, A] w fun e w' => e = .returned (.bool false) ∧ Below w.heap.size w w') (w : World) (hw : Ψ w) :
    Calls Tryd.prog 32 #[.iface 98 v, .string S] w fun e w' => e = .returned (.tuple #[.string ⟨#[]⟩, .int .i64 1]) ∧ Below w.heap.size w w' := by
  have HC := Lib.hid hC
  have HP := Lib.hid hP
  have HA := Lib.hid hA
  have HK := Lib.hid hΨ
  have HW := Lib.hid hw
  have hm := meth98 v
  clear hC hP hA hΨ hw
  go_enter Tryd.func32, Tryd.ntmps32
  go_wp2_with (first
    | (go_at_call 110; refine (HC.out _).mono ?_; rintro e w1 ⟨rfl, hb1⟩; have HB1 := Lib.hid hb1; have HW1 := Lib.hid (HK.out _ _ HW.out hb1); clear hb1)
    | (go_at_call 9; refine (HP.out _ HW1.out).mono ?_; rintro e w2 ⟨A, rfl, hf, hb2⟩; have HF2 := Lib.hid hf; have HB2 := Lib.hid (HB1.out.trans (hb2.mono HB1.out.size)); have HW2 := Lib.hid (HK.out _ _ HW1.out hb2); clear hb2 hf)
    | (go_at_call 54; refine (HA.out A _ HF2.out HW2.out).mono ?_; rintro e w3 ⟨rfl, hb3⟩; have HB3 := Lib.hid (HB2.out.trans (hb3.mono HB2.out.size)); clear hb3))
  go_ret2
  exact ⟨rfl, HB3.out⟩
/-- What is written: all that can come. -/
theorem whole98 (v : Value) (z : Int) (S : ByteArray) (R : Prop) (Ψ : World → Prop) (hΨ : ∀ x x', Ψ x → Below x.heap.size x x' → Ψ x') (hT : ∀ w, Ψ w → Tab w)
    (hC : ∀ w, Calls Tryd.prog 110 #[v] w fun e w' => e = .returned (.int .i64 z) ∧ Below w.heap.size w w')
    (hA : ∀ B A w, perr z S = 0 → SegV B (rseg z S).1 A w → Ψ w → Calls Tryd.prog 54 #[.iface 98 v, A] w fun e w' => ∃ b, e = .returned (.bool b) ∧ (b = true ↔ R) ∧ Below w.heap.size w w') (w : World) (hw : Ψ w) :
    Calls Tryd.prog 32 #[.iface 98 v, .string S] w fun e w' => WholeP z S R w e w' := by
  by_cases he : perr z S = 0
  · have hs := perr_size he
    have hP : ∀ w, Ψ w → Calls Tryd.prog 9 #[.int .i64 z, .string S] w fun e w' => ∃ A, e = .returned (.tuple #[A, .int .i64 0]) ∧ (∃ B, SegV B (rseg z S).1 A w') ∧ Below w.heap.size w w' := fun w hw => (Parse_any z S w (hT w hw)).mono fun e w' h => by
      rcases h.1 with ⟨_, V, h1, h2⟩ | ⟨h1, _⟩
      · exact ⟨V, h1, ⟨_, h2⟩, h.2⟩
      · exact absurd he h1
    by_cases hR : R
    · refine (whole_yes98 v z S hs Ψ (fun A x => ∃ B, SegV B (rseg z S).1 A x) hΨ hC hP (fun A x ⟨B, h1⟩ h2 => (hA B A x he h1 h2).mono fun e w' ⟨b, a1, a2, a3⟩ => ⟨by rw [a1, a2.2 hR], a3⟩) _ rfl w hw).mono fun e w' ⟨h1, h2⟩ => ⟨.inl ⟨he, hR, h1⟩, h2⟩
    · refine (whole_no98 v z S Ψ (fun A x => ∃ B, SegV B (rseg z S).1 A x) hΨ hC hP (fun A x ⟨B, h1⟩ h2 => (hA B A x he h1 h2).mono fun e w' ⟨b, a1, a2, a3⟩ => ⟨by rw [a1, bool_no a2 hR], a3⟩) w hw).mono fun e w' ⟨h1, h2⟩ => ⟨.inr ⟨fun h => hR h.2, h1⟩, h2⟩
  · refine (whole_err98 v z S (perr z S : Nat) (by omega) Ψ hΨ hC (fun w hw => (Parse_any z S w (hT w hw)).mono fun e w' h => by
      rcases h.1 with ⟨h1, _⟩ | ⟨_, h2⟩
      · exact absurd h1 he
      · exact ⟨h2, h.2⟩) w hw).mono fun e w' ⟨h1, h2⟩ => ⟨.inr ⟨fun h => he h.1, h1⟩, h2⟩
set_option maxHeartbeats 2000000 in
set_option maxRecDepth 100000 in
theorem whole_yes76b (v : Value) (z : Int) (S : ByteArray) (hS : S.size ≤ 65533) (Ψ : World → Prop) (Φ : Value → World → Prop)
    (hΨ : ∀ x x', Ψ x → Below x.heap.size x x' → Ψ x')
    (hC : ∀ w, Calls Tryd.prog 107 #[v] w fun e w' => e = .returned (.int .i64 z) ∧ Below w.heap.size w w')
    (hP : ∀ w, Ψ w → Calls Tryd.prog 9 #[.int .i64 z, .string S] w fun e w' => ∃ A, e = .returned (.tuple #[A, .int .i64 0]) ∧ Φ A w' ∧ Below w.heap.size w w')
    (hA : ∀ A w, Φ A w → Ψ w → Calls Tryd.prog 54 #[.iface 76 v, A] w fun e w' => e = .returned (.bool true) ∧ Below w.heap.size w w')
    (L : List UInt8) (hL : L = wbytes z S) (w : World) (hw : Ψ w) :
    Calls Tryd.prog 32 #[.iface 76 v, .string S] w fun e w' => e = .returned (.tuple #[.string ⟨L.toArray⟩, .int .i64 0]) ∧ Below w.heap.size w w' := by
  have HC := Lib.hid hC
  have HP := Lib.hid hP
  have HA := Lib.hid hA
  have HK := Lib.hid hΨ
  have HW := Lib.hid hw
  have HL := Lib.hid hL
  have hneg : ¬ 9223372036854775807 < (S.size : Int) + 2 := by omega
  have hwr : wrap64 ((S.size : Int) + 2) = (S.size : Int) + 2 := wrap64_small _ (by omega) (by omega)
  have hm := meth76 v
  clear hC hP hA hΨ hw hL
  go_enter Tryd.func32, Tryd.ntmps32
  go_upto_region 4 with (first
    | (go_at_call 107; refine (HC.out _).mono ?_; rintro e w1 ⟨rfl, hb1⟩; have HB1 := Lib.hid hb1; have HW1 := Lib.hid (HK.out _ _ HW.out hb1); clear hb1)
    | (go_at_call 9; refine (HP.out _ HW1.out).mono ?_; rintro e w2 ⟨A, rfl, hf, hb2⟩; have HF2 := Lib.hid hf; have HB2 := Lib.hid (HB1.out.trans (hb2.mono HB1.out.size)); have HW2 := Lib.hid (HK.out _ _ HW1.out hb2); clear hb2 hf)
    | (go_at_call 54; refine (HA.out A _ HF2.out HW2.out).mono ?_; rintro e w3 ⟨rfl, hb3⟩; have HB3 := Lib.hid (HB2.out.trans (hb3.mono HB2.out.size)); clear hb3))
  have HBL := Lib.hid (Bld.new w3)
  have HB4 := Lib.hid (HB3.out.alloc HB3.out.size (.cells #[.pointer none, .slice none 0 0] 95))
  have hs3 := HB3.out.size
  go_upto_region 5 with fail
  obtain ⟨g, hg⟩ : ∃ g, g = w3.heap.size := ⟨_, rfl⟩
  obtain ⟨w4, hw4⟩ : ∃ w4, w4 = w3.alloc (.cells #[.pointer none, .slice none 0 0] 95) := ⟨_, rfl⟩
  rw [← hg, ← hw4] at HBL
  rw [← hw4] at HB4
  rw [← hg] at hs3
  rw [← hg, ← hw4]
  have hp1 := pbytes_length z 1
  obtain ⟨L1, hL1⟩ : ∃ L1, L1 = [] ++ [255] ++ pbytes z 1 := ⟨_, rfl⟩
  obtain ⟨L2, hL2⟩ : ∃ L2, L2 = L1 ++ pbytes ((S.size : Int) + 2) 2 := ⟨_, rfl⟩
  have hl1 : L1.length ≤ 5 := by rw [hL1]; simp; omega
  have hl2 : L2.length ≤ 9 := by rw [hL2, List.length_append]; have := pbytes_length ((S.size : Int) + 2) 2; omega
  have HM : Hid (∀ x, Bld g g [] x → Calls Tryd.prog 49 #[.pointer (some ⟨g, 0, none⟩), .int .i64 z] x fun e w' => e = .returned (.tuple #[]) ∧ Bld g g L1 w' ∧ Below g x w') := fun x hx => by
    rw [hL1]
    exact marker_any g g [] z x hx (by simp)
  have HN : Hid (∀ x, Bld g g L1 x → Calls Tryd.prog 31 #[.pointer (some ⟨g, 0, none⟩), .int .i64 ((S.size : Int) + 2), .int .i64 2] x fun e w' => e = .returned (.tuple #[]) ∧ Bld g g L2 w' ∧ Below g x w') := fun x hx => by
    rw [hL2]
    exact wnum_any g g L1 ((S.size : Int) + 2) 2 x hx (by omega)
  have HSt : Hid (∀ x, Bld g g L2 x → Calls Tryd.prog 26 #[.pointer (some ⟨g, 0, none⟩), .string S] x fun e w' => e = .returned (.tuple #[.int .i64 S.size, .nilIface]) ∧ Bld g g L w' ∧ Below g x w') := fun x hx => by
    rw [HL.out, wbytes, ← hL1, ← hL2]
    exact WriteString_any g g L2 S x hx (by omega) (by have := hx.lt; omega)
  have HTt : Hid (∀ x, Bld g g L x → Calls Tryd.prog 33 #[.pointer (some ⟨g, 0, none⟩)] x fun e w' => e = .returned (.string ⟨L.toArray⟩) ∧ Below g x w') := fun x hx =>
    String_some g g L x hx (by rw [HL.out]; simp [wbytes])
  clear hL1 hL2 hl1 hl2 hp1 HL hg hw4
  go_wp2_with (first
    | (go_at_call 107; refine (HC.out _).mono ?_; rintro e w5 ⟨rfl, hb5⟩; have HBL5 := Lib.hid (HBL.out.on hb5); have HB5 := Lib.hid (HB4.out.trans (hb5.mono HB4.out.size)); clear hb5)
    | (go_at_call 49; refine (HM.out w5 HBL5.out).mono ?_; rintro e w6 ⟨rfl, hr, hb6⟩; have H6 := Lib.hid hr; have HB6 := Lib.hid (HB5.out.trans (hb6.mono hs3)); clear hr hb6)
    | (go_at_call 31; refine (HN.out w6 H6.out).mono ?_; rintro e w7 ⟨rfl, hr, hb7⟩; have H7 := Lib.hid hr; have HB7 := Lib.hid (HB6.out.trans (hb7.mono hs3)); clear hr hb7)
    | (go_at_call 26; refine (HSt.out w7 H7.out).mono ?_; rintro e w8 ⟨rfl, hr, hb8⟩; have H8 := Lib.hid hr; have HB8 := Lib.hid (HB7.out.trans (hb8.mono hs3)); clear hr hb8)
    | (go_at_call 33; refine (HTt.out w8 H8.out).mono ?_; rintro e w9 ⟨rfl, hb9⟩; have HB9 := Lib.hid (HB8.out.trans (hb9.mono hs3)); clear hb9))
  go_ret2
  exact ⟨rfl, HB9.out⟩
set_option maxHeartbeats 2000000 in
set_option maxRecDepth 100000 in
theorem whole_err76 (v : Value) (z : Int) (S : ByteArray) (E : Int) (hE : E ≠ 0) (Ψ : World → Prop) (hΨ : ∀ x x', Ψ x → Below x.heap.size x x' → Ψ x')
    (hC : ∀ w, Calls Tryd.prog 107 #[v] w fun e w' => e = .returned (.int .i64 z) ∧ Below w.heap.size w w')
    (hP : ∀ w, Ψ w → Calls Tryd.prog 9 #[.int .i64 z, .string S] w fun e w' => e = .returned (.tuple #[.nilIface, .int .i64 E]) ∧ Below w.heap.size w w') (w : World) (hw : Ψ w) :
    Calls Tryd.prog 32 #[.iface 76 v, .string S] w fun e w' => e = .returned (.tuple #[.string ⟨#[]⟩, .int .i64 1]) ∧ Below w.heap.size w w' := by
  have HC := Lib.hid hC
  have HP := Lib.hid hP
  have HK := Lib.hid hΨ
  have HW := Lib.hid hw
  have hm := meth76 v
  have e0 : (E != 0) = true := by rw [bne_iff_ne]; exact hE
  clear hC hP hΨ hw hE
  go_enter Tryd.func32, Tryd.ntmps32
  go_wp2_with (first
    | (go_at_call 107; refine (HC.out _).mono ?_; rintro e w1 ⟨rfl, hb1⟩; have HB1 := Lib.hid hb1; have HW1 := Lib.hid (HK.out _ _ HW.out hb1); clear hb1)
    | (go_at_call 9; refine (HP.out _ HW1.out).mono ?_; rintro e w2 ⟨rfl, hb2⟩; have HB2 := Lib.hid (HB1.out.trans (hb2.mono HB1.out.size)); clear hb2))
  go_ret2
  exact ⟨rfl, HB2.out⟩
set_option maxHeartbeats 2000000 in
set_option maxRecDepth 100000 in
theorem whole_no76 (v : Value) (z : Int) (S : ByteArray) (Ψ : World → Prop) (Φ : Value → World → Prop) (hΨ : ∀ x x', Ψ x → Below x.heap.size x x' → Ψ x')
    (hC : ∀ w, Calls Tryd.prog 107 #[v] w fun e w' => e = .returned (.int .i64 z) ∧ Below w.heap.size w w')
    (hP : ∀ w, Ψ w → Calls Tryd.prog 9 #[.int .i64 z, .string S] w fun e w' => ∃ A, e = .returned (.tuple #[A, .int .i64 0]) ∧ Φ A w' ∧ Below w.heap.size w w')
    (hA : ∀ A w, Φ A w → Ψ w → Calls Tryd.prog 54 #[.iface 76 v, A] w fun e w' => e = .returned (.bool false) ∧ Below w.heap.size w w') (w : World) (hw : Ψ w) :
    Calls Tryd.prog 32 #[.iface 76 v, .string S] w fun e w' => e = .returned (.tuple #[.string ⟨#[]⟩, .int .i64 1]) ∧ Below w.heap.size w w' := by
  have HC := Lib.hid hC
  have HP := Lib.hid hP
  have HA := Lib.hid hA
  have HK := Lib.hid hΨ
  have HW := Lib.hid hw
  have hm := meth76 v
  clear hC hP hA hΨ hw
  go_enter Tryd.func32, Tryd.ntmps32
  go_wp2_with (first
    | (go_at_call 107; refine (HC.out _).mono ?_; rintro e w1 ⟨rfl, hb1⟩; have HB1 := Lib.hid hb1; have HW1 := Lib.hid (HK.out _ _ HW.out hb1); clear hb1)
    | (go_at_call 9; refine (HP.out _ HW1.out).mono ?_; rintro e w2 ⟨A, rfl, hf, hb2⟩; have HF2 := Lib.hid hf; have HB2 := Lib.hid (HB1.out.trans (hb2.mono HB1.out.size)); have HW2 := Lib.hid (HK.out _ _ HW1.out hb2); clear hb2 hf)
    | (go_at_call 54; refine (HA.out A _ HF2.out HW2.out).mono ?_; rintro e w3 ⟨rfl, hb3⟩; have HB3 := Lib.hid (HB2.out.trans (hb3.mono HB2.out.size)); clear hb3))
  go_ret2
  exact ⟨rfl, HB3.out⟩
/-- What is written: all that can come. -/
theorem whole76 (v : Value) (z : Int) (S : ByteArray) (R : Prop) (Ψ : World → Prop) (hΨ : ∀ x x', Ψ x → Below x.heap.size x x' → Ψ x') (hT : ∀ w, Ψ w → Tab w)
    (hC : ∀ w, Calls Tryd.prog 107 #[v] w fun e w' => e = .returned (.int .i64 z) ∧ Below w.heap.size w w')
    (hA : ∀ B A w, perr z S = 0 → SegV B (rseg z S).1 A w → Ψ w → Calls Tryd.prog 54 #[.iface 76 v, A] w fun e w' => ∃ b, e = .returned (.bool b) ∧ (b = true ↔ R) ∧ Below w.heap.size w w') (w : World) (hw : Ψ w) :
    Calls Tryd.prog 32 #[.iface 76 v, .string S] w fun e w' => WholeP z S R w e w' := by
  by_cases he : perr z S = 0
  · have hs := perr_size he
    have hP : ∀ w, Ψ w → Calls Tryd.prog 9 #[.int .i64 z, .string S] w fun e w' => ∃ A, e = .returned (.tuple #[A, .int .i64 0]) ∧ (∃ B, SegV B (rseg z S).1 A w') ∧ Below w.heap.size w w' := fun w hw => (Parse_any z S w (hT w hw)).mono fun e w' h => by
      rcases h.1 with ⟨_, V, h1, h2⟩ | ⟨h1, _⟩
      · exact ⟨V, h1, ⟨_, h2⟩, h.2⟩
      · exact absurd he h1
    by_cases hR : R
    · refine (whole_yes76b v z S hs Ψ (fun A x => ∃ B, SegV B (rseg z S).1 A x) hΨ hC hP (fun A x ⟨B, h1⟩ h2 => (hA B A x he h1 h2).mono fun e w' ⟨b, a1, a2, a3⟩ => ⟨by rw [a1, a2.2 hR], a3⟩) _ rfl w hw).mono fun e w' ⟨h1, h2⟩ => ⟨.inl ⟨he, hR, h1⟩, h2⟩
    · refine (whole_no76 v z S Ψ (fun A x => ∃ B, SegV B (rseg z S).1 A x) hΨ hC hP (fun A x ⟨B, h1⟩ h2 => (hA B A x he h1 h2).mono fun e w' ⟨b, a1, a2, a3⟩ => ⟨by rw [a1, bool_no a2 hR], a3⟩) w hw).mono fun e w' ⟨h1, h2⟩ => ⟨.inr ⟨fun h => hR h.2, h1⟩, h2⟩
  · refine (whole_err76 v z S (perr z S : Nat) (by omega) Ψ hΨ hC (fun w hw => (Parse_any z S w (hT w hw)).mono fun e w' h => by
      rcases h.1 with ⟨h1, _⟩ | ⟨_, h2⟩
      · exact absurd h1 he
      · exact ⟨h2, h.2⟩) w hw).mono fun e w' ⟨h1, h2⟩ => ⟨.inr ⟨fun h => he h.1, h1⟩, h2⟩
/-! The bytes of segments: of tables, of a frame's beginning, of a scan's. -/
/-! The bytes of segments: of tables, of a frame's beginning, of a scan's. -/
/-- Which answer it is. -/
def WholeQ (z : Int) (S : ByteArray) (R : Prop) (T : ByteArray) (E : Int) : Prop :=
  (perr z S = 0 ∧ R ∧ T = ⟨(wbytes z S).toArray⟩ ∧ E = 0) ∨ (¬ (perr z S = 0 ∧ R) ∧ T = ⟨#[]⟩ ∧ E = 1)
def BytesP (z : Int) (S : ByteArray) (R : Prop) (w : World) (e : Ending) (w' : World) : Prop := ∃ T E, e = .returned (.tuple #[.string T, .int .i64 E]) ∧ WholeQ z S R T E ∧ Below w.heap.size w w'
theorem WholeP.out {z : Int} {S : ByteArray} {R : Prop} {w : World} {e : Ending} {w' : World} (h : WholeP z S R w e w') : ∃ T E, e = .returned (.tuple #[.string T, .int .i64 E]) ∧ WholeQ z S R T E ∧ Below w.heap.size w w' := by
  rcases h.1 with ⟨h1, h2, h3⟩ | ⟨h1, h3⟩
  · exact ⟨_, _, h3, .inl ⟨h1, h2, rfl, rfl⟩, h.2⟩
  · exact ⟨_, _, h3, .inr ⟨h1, rfl, rfl⟩, h.2⟩
set_option maxHeartbeats 2000000 in
set_option maxRecDepth 100000 in
theorem Bytes_quants (v : Value) (l : List QT) (hl : l.length ≤ 1000000) (hla : ∀ k, k ≤ l.length → (wquants (l.take k)).length ≤ 100000000) (hcc : ∀ x ∈ l, ∀ i, i < 64 → 0 ≤ x.2.2 i ∧ x.2.2 i < 65536) (w : World) (hT : Tab w) (hv : RowV 66 cellsQ v l w) (R : Prop) (S : ByteArray) (hS : S = ⟨(wquants l).toArray⟩)
    (hW : ∀ x, Tab x → RowV 66 cellsQ v l x → Calls Tryd.prog 32 #[.iface 62 (.agg #[v]), .string S] x fun e w' => WholeP 219 S R x e w') :
    Calls Tryd.prog 11 #[.iface 62 (.agg #[v])] w fun e w' => BytesP 219 S R w e w' := by
  obtain ⟨p, n, c, rfl, hn⟩ := hv.shape
  obtain ⟨w2, hw2⟩ : ∃ w2, w2 = (w.alloc (.cells #[.pointer none, .slice none 0 0] 95)).alloc (.cells #[.slice p n c] 62) := ⟨_, rfl⟩
  have hl2 : Below w.heap.size w w2 := by rw [hw2]; exact (below_new _ _).alloc (by rw [size_alloc]; omega) _
  have HB2 : Hid (Bld w.heap.size w.heap.size [] w2) := by rw [hw2]; exact (Bld.new w).on (below_new _ _)
  have HL2 := Lib.hid hl2
  have HG := Lib.hid (show w2.heap[w.heap.size + 1]? = some (.cells #[.slice p n c] 62 (0, 0)) from by
    have h := heap_alloc_new (w.alloc (.cells #[.pointer none, .slice none 0 0] 95)) (.cells #[.slice p n c] 62)
    rw [size_alloc] at h
    rw [hw2]
    exact h)
  have HN : Hid (Calls Tryd.prog 27 #[.pointer (some ⟨w.heap.size, 0, none⟩), .agg #[.slice p n c]] w2 fun e w' => e = .returned (.tuple #[]) ∧ Bld w.heap.size w.heap.size (wquants l) w' ∧ Below w.heap.size w2 w') := quants_w w.heap.size w.heap.size [] (.slice p n c) l hl (fun k hk => by have := hla k hk; simpa using this) hcc w hT rfl hv w2 hl2 HB2.out
  have HT : Hid (∀ x, Bld w.heap.size w.heap.size (wquants l) x → Calls Tryd.prog 33 #[.pointer (some ⟨w.heap.size, 0, none⟩)] x fun e w' => e = .returned (.string S) ∧ Below w.heap.size x w') := fun x hx => by rw [hS]; exact String_any _ _ _ x hx (by have := hx.lt; omega)
  have HWH : Hid (∀ x, Below w.heap.size w x → Calls Tryd.prog 32 #[.iface 62 (.agg #[.slice p n c]), .string S] x fun e w' => ∃ T E, e = .returned (.tuple #[.string T, .int .i64 E]) ∧ WholeQ 219 S R T E ∧ Below x.heap.size x w') := fun x hx => (hW x (hT.on hx) (hv.on cellsQ_size hx)).mono fun e w' h => h.out
  have a0 := fun w => no58 (t := 62) (by decide) (.agg #[.slice p n c]) w
  have a1 := fun w => no98 (t := 62) (by decide) (.agg #[.slice p n c]) w
  have a9 := fun w => yes62 (.agg #[.slice p n c]) w
  have HW2 := Lib.hid hw2
  clear hT hv hW hS hw2 hl2 hn hl hla hcc
  go_enter Tryd.func11, Tryd.ntmps11
  go_upto_region 13 with fail
  rw [← HW2.out]
  have x0 : w2.cell? ⟨w.heap.size + 1, 0, none⟩ = some (.slice p n c) := Lib.cell_of_heap HG.out 0
  clear a0 a1 a9 HW2
  go_wp2_with (first
    | (go_at_call 27; refine HN.out.mono ?_; rintro e w3 ⟨rfl, hr, hb3⟩; have H3 := Lib.hid hr; have HL3 := Lib.hid (HL2.out.trans hb3); clear hr hb3)
    | (go_at_call 33; refine (HT.out w3 H3.out).mono ?_; rintro e w4 ⟨rfl, hb4⟩; have HL4 := Lib.hid (HL3.out.trans hb4); clear hb4)
    | (go_at_call 32; refine (HWH.out w4 HL4.out).mono ?_; rintro e w5 ⟨T, E, rfl, hq, hb5⟩; have HQ := Lib.hid hq; have HL5 := Lib.hid (HL4.out.trans (hb5.mono HL4.out.size)); clear hb5 hq))
  go_ret2
  exact ⟨_, _, rfl, HQ.out, HL5.out⟩
set_option maxHeartbeats 2000000 in
set_option maxRecDepth 100000 in
theorem Bytes_huffs (v : Value) (l : List HT) (hl : l.length ≤ 1000000) (hla : ∀ k, k ≤ l.length → (whuffs (l.take k)).length ≤ 100000000) (hcc : ∀ x ∈ l, ∀ i, i < 16 → x.2.2.1 i < 256) (w : World) (hT : Tab w) (hv : RowV 19 cellsH v l w) (R : Prop) (S : ByteArray) (hS : S = ⟨(whuffs l).toArray⟩)
    (hW : ∀ x, Tab x → RowV 19 cellsH v l x → Calls Tryd.prog 32 #[.iface 70 (.agg #[v]), .string S] x fun e w' => WholeP 196 S R x e w') :
    Calls Tryd.prog 11 #[.iface 70 (.agg #[v])] w fun e w' => BytesP 196 S R w e w' := by
  obtain ⟨p, n, c, rfl, hn⟩ := hv.shape
  obtain ⟨w2, hw2⟩ : ∃ w2, w2 = (w.alloc (.cells #[.pointer none, .slice none 0 0] 95)).alloc (.cells #[.slice p n c] 70) := ⟨_, rfl⟩
  have hl2 : Below w.heap.size w w2 := by rw [hw2]; exact (below_new _ _).alloc (by rw [size_alloc]; omega) _
  have HB2 : Hid (Bld w.heap.size w.heap.size [] w2) := by rw [hw2]; exact (Bld.new w).on (below_new _ _)
  have HL2 := Lib.hid hl2
  have HG := Lib.hid (show w2.heap[w.heap.size + 1]? = some (.cells #[.slice p n c] 70 (0, 0)) from by
    have h := heap_alloc_new (w.alloc (.cells #[.pointer none, .slice none 0 0] 95)) (.cells #[.slice p n c] 70)
    rw [size_alloc] at h
    rw [hw2]
    exact h)
  have HN : Hid (Calls Tryd.prog 28 #[.pointer (some ⟨w.heap.size, 0, none⟩), .agg #[.slice p n c]] w2 fun e w' => e = .returned (.tuple #[]) ∧ Bld w.heap.size w.heap.size (whuffs l) w' ∧ Below w.heap.size w2 w') := huffs_w w.heap.size w.heap.size [] (.slice p n c) l hl (by have := hla l.length (Nat.le_refl _); rw [List.take_length] at this; simpa using this) (fun k hk => by have := hla k hk; simpa using this) hcc w rfl hv w2 hl2 HB2.out
  have HT : Hid (∀ x, Bld w.heap.size w.heap.size (whuffs l) x → Calls Tryd.prog 33 #[.pointer (some ⟨w.heap.size, 0, none⟩)] x fun e w' => e = .returned (.string S) ∧ Below w.heap.size x w') := fun x hx => by rw [hS]; exact String_any _ _ _ x hx (by have := hx.lt; omega)
  have HWH : Hid (∀ x, Below w.heap.size w x → Calls Tryd.prog 32 #[.iface 70 (.agg #[.slice p n c]), .string S] x fun e w' => ∃ T E, e = .returned (.tuple #[.string T, .int .i64 E]) ∧ WholeQ 196 S R T E ∧ Below x.heap.size x w') := fun x hx => (hW x (hT.on hx) (hv.on cellsH_size hx)).mono fun e w' h => h.out
  have a0 := fun w => no58 (t := 70) (by decide) (.agg #[.slice p n c]) w
  have a1 := fun w => no98 (t := 70) (by decide) (.agg #[.slice p n c]) w
  have a2 := fun w => no62 (t := 70) (by decide) (.agg #[.slice p n c]) w
  have a9 := fun w => yes70 (.agg #[.slice p n c]) w
  have HW2 := Lib.hid hw2
  clear hT hv hW hS hw2 hl2 hn hl hla hcc
  go_enter Tryd.func11, Tryd.ntmps11
  go_upto_region 16 with fail
  rw [← HW2.out]
  have x0 : w2.cell? ⟨w.heap.size + 1, 0, none⟩ = some (.slice p n c) := Lib.cell_of_heap HG.out 0
  clear a0 a1 a2 a9 HW2
  go_wp2_with (first
    | (go_at_call 28; refine HN.out.mono ?_; rintro e w3 ⟨rfl, hr, hb3⟩; have H3 := Lib.hid hr; have HL3 := Lib.hid (HL2.out.trans hb3); clear hr hb3)
    | (go_at_call 33; refine (HT.out w3 H3.out).mono ?_; rintro e w4 ⟨rfl, hb4⟩; have HL4 := Lib.hid (HL3.out.trans hb4); clear hb4)
    | (go_at_call 32; refine (HWH.out w4 HL4.out).mono ?_; rintro e w5 ⟨T, E, rfl, hq, hb5⟩; have HQ := Lib.hid hq; have HL5 := Lib.hid (HL4.out.trans (hb5.mono HL4.out.size)); clear hb5 hq))
  go_ret2
  exact ⟨_, _, rfl, HQ.out, HL5.out⟩
set_option maxHeartbeats 2000000 in
set_option maxRecDepth 100000 in
theorem Bytes_frame (z h u : Int) (v : Value) (l : List PT) (hl : l.length ≤ 1000000) (w : World) (hT : Tab w) (hv : RowV 4 cellsP v l w) (R : Prop) (S : ByteArray) (hS : S = ⟨(wframe h u l).toArray⟩)
    (hW : ∀ x, Tab x → RowV 4 cellsP v l x → Calls Tryd.prog 32 #[.iface 44 (.agg #[.int .i64 z, .int .i64 h, .int .i64 u, v]), .string S] x fun e w' => WholeP z S R x e w') :
    Calls Tryd.prog 11 #[.iface 44 (.agg #[.int .i64 z, .int .i64 h, .int .i64 u, v])] w fun e w' => BytesP z S R w e w' := by
  obtain ⟨p, n, c, rfl, hn⟩ := hv.shape
  obtain ⟨w2, hw2⟩ : ∃ w2, w2 = (w.alloc (.cells #[.pointer none, .slice none 0 0] 95)).alloc (.cells #[.int .i64 z, .int .i64 h, .int .i64 u, .slice p n c] 44) := ⟨_, rfl⟩
  have hl2 : Below w.heap.size w w2 := by rw [hw2]; exact (below_new _ _).alloc (by rw [size_alloc]; omega) _
  have HB2 : Hid (Bld w.heap.size w.heap.size [] w2) := by rw [hw2]; exact (Bld.new w).on (below_new _ _)
  have HL2 := Lib.hid hl2
  have HG := Lib.hid (show w2.heap[w.heap.size + 1]? = some (.cells #[.int .i64 z, .int .i64 h, .int .i64 u, .slice p n c] 44 (0, 0)) from by
    have h := heap_alloc_new (w.alloc (.cells #[.pointer none, .slice none 0 0] 95)) (.cells #[.int .i64 z, .int .i64 h, .int .i64 u, .slice p n c] 44)
    rw [size_alloc] at h
    rw [hw2]
    exact h)
  have HN : Hid (Calls Tryd.prog 29 #[.pointer (some ⟨w.heap.size, 0, none⟩), .agg #[.int .i64 z, .int .i64 h, .int .i64 u, .slice p n c]] w2 fun e w' => e = .returned (.tuple #[]) ∧ Bld w.heap.size w.heap.size (wframe h u l) w' ∧ Below w.heap.size w2 w') := frame_w w.heap.size w.heap.size [] z h u (.slice p n c) l hl (by simp) w rfl hv w2 hl2 HB2.out
  have HT : Hid (∀ x, Bld w.heap.size w.heap.size (wframe h u l) x → Calls Tryd.prog 33 #[.pointer (some ⟨w.heap.size, 0, none⟩)] x fun e w' => e = .returned (.string S) ∧ Below w.heap.size x w') := fun x hx => by rw [hS]; exact String_any _ _ _ x hx (by have := hx.lt; omega)
  have HWH : Hid (∀ x, Below w.heap.size w x → Calls Tryd.prog 32 #[.iface 44 (.agg #[.int .i64 z, .int .i64 h, .int .i64 u, .slice p n c]), .string S] x fun e w' => ∃ T E, e = .returned (.tuple #[.string T, .int .i64 E]) ∧ WholeQ z S R T E ∧ Below x.heap.size x w') := fun x hx => (hW x (hT.on hx) (hv.on cellsP_size hx)).mono fun e w' h => h.out
  have a0 := fun w => no58 (t := 44) (by decide) (.agg #[.int .i64 z, .int .i64 h, .int .i64 u, .slice p n c]) w
  have a1 := fun w => no98 (t := 44) (by decide) (.agg #[.int .i64 z, .int .i64 h, .int .i64 u, .slice p n c]) w
  have a2 := fun w => no62 (t := 44) (by decide) (.agg #[.int .i64 z, .int .i64 h, .int .i64 u, .slice p n c]) w
  have a3 := fun w => no70 (t := 44) (by decide) (.agg #[.int .i64 z, .int .i64 h, .int .i64 u, .slice p n c]) w
  have a9 := fun w => yes44 (.agg #[.int .i64 z, .int .i64 h, .int .i64 u, .slice p n c]) w
  have HW2 := Lib.hid hw2
  clear hT hv hW hS hw2 hl2 hn hl
  go_enter Tryd.func11, Tryd.ntmps11
  go_upto_region 19 with fail
  rw [← HW2.out]
  have x0 : w2.cell? ⟨w.heap.size + 1, 0, none⟩ = some (.int .i64 z) := Lib.cell_of_heap HG.out 0
  have x1 : w2.cell? ⟨w.heap.size + 1, 1, none⟩ = some (.int .i64 h) := Lib.cell_of_heap HG.out 1
  have x2 : w2.cell? ⟨w.heap.size + 1, 2, none⟩ = some (.int .i64 u) := Lib.cell_of_heap HG.out 2
  have x3 : w2.cell? ⟨w.heap.size + 1, 3, none⟩ = some (.slice p n c) := Lib.cell_of_heap HG.out 3
  clear a0 a1 a2 a3 a9 HW2
  go_wp2_with (first
    | (go_at_call 29; refine HN.out.mono ?_; rintro e w3 ⟨rfl, hr, hb3⟩; have H3 := Lib.hid hr; have HL3 := Lib.hid (HL2.out.trans hb3); clear hr hb3)
    | (go_at_call 33; refine (HT.out w3 H3.out).mono ?_; rintro e w4 ⟨rfl, hb4⟩; have HL4 := Lib.hid (HL3.out.trans hb4); clear hb4)
    | (go_at_call 32; refine (HWH.out w4 HL4.out).mono ?_; rintro e w5 ⟨T, E, rfl, hq, hb5⟩; have HQ := Lib.hid hq; have HL5 := Lib.hid (HL4.out.trans (hb5.mono HL4.out.size)); clear hb5 hq))
  go_ret2
  exact ⟨_, _, rfl, HQ.out, HL5.out⟩
set_option maxHeartbeats 2000000 in
set_option maxRecDepth 100000 in
theorem Bytes_scan (f t h u : Int) (v : Value) (l : List KT) (hl : l.length ≤ 1000000) (w : World) (hT : Tab w) (hv : RowV 3 cellsK v l w) (R : Prop) (S : ByteArray) (hS : S = ⟨(wscan l f t h u).toArray⟩)
    (hW : ∀ x, Tab x → RowV 3 cellsK v l x → Calls Tryd.prog 32 #[.iface 49 (.agg #[v, .int .i64 f, .int .i64 t, .int .i64 h, .int .i64 u]), .string S] x fun e w' => WholeP 218 S R x e w') :
    Calls Tryd.prog 11 #[.iface 49 (.agg #[v, .int .i64 f, .int .i64 t, .int .i64 h, .int .i64 u])] w fun e w' => BytesP 218 S R w e w' := by
  obtain ⟨p, n, c, rfl, hn⟩ := hv.shape
  obtain ⟨w2, hw2⟩ : ∃ w2, w2 = (w.alloc (.cells #[.pointer none, .slice none 0 0] 95)).alloc (.cells #[.slice p n c, .int .i64 f, .int .i64 t, .int .i64 h, .int .i64 u] 49) := ⟨_, rfl⟩
  have hl2 : Below w.heap.size w w2 := by rw [hw2]; exact (below_new _ _).alloc (by rw [size_alloc]; omega) _
  have HB2 : Hid (Bld w.heap.size w.heap.size [] w2) := by rw [hw2]; exact (Bld.new w).on (below_new _ _)
  have HL2 := Lib.hid hl2
  have HG := Lib.hid (show w2.heap[w.heap.size + 1]? = some (.cells #[.slice p n c, .int .i64 f, .int .i64 t, .int .i64 h, .int .i64 u] 49 (0, 0)) from by
    have h := heap_alloc_new (w.alloc (.cells #[.pointer none, .slice none 0 0] 95)) (.cells #[.slice p n c, .int .i64 f, .int .i64 t, .int .i64 h, .int .i64 u] 49)
    rw [size_alloc] at h
    rw [hw2]
    exact h)
  have HN : Hid (Calls Tryd.prog 30 #[.pointer (some ⟨w.heap.size, 0, none⟩), .agg #[.slice p n c, .int .i64 f, .int .i64 t, .int .i64 h, .int .i64 u]] w2 fun e w' => e = .returned (.tuple #[]) ∧ Bld w.heap.size w.heap.size (wscan l f t h u) w' ∧ Below w.heap.size w2 w') := scan_w w.heap.size w.heap.size [] f t h u (.slice p n c) l hl (by simp) w rfl hv w2 hl2 HB2.out
  have HT : Hid (∀ x, Bld w.heap.size w.heap.size (wscan l f t h u) x → Calls Tryd.prog 33 #[.pointer (some ⟨w.heap.size, 0, none⟩)] x fun e w' => e = .returned (.string S) ∧ Below w.heap.size x w') := fun x hx => by rw [hS]; exact String_any _ _ _ x hx (by have := hx.lt; omega)
  have HWH : Hid (∀ x, Below w.heap.size w x → Calls Tryd.prog 32 #[.iface 49 (.agg #[.slice p n c, .int .i64 f, .int .i64 t, .int .i64 h, .int .i64 u]), .string S] x fun e w' => ∃ T E, e = .returned (.tuple #[.string T, .int .i64 E]) ∧ WholeQ 218 S R T E ∧ Below x.heap.size x w') := fun x hx => (hW x (hT.on hx) (hv.on cellsK_size hx)).mono fun e w' h => h.out
  have a0 := fun w => no58 (t := 49) (by decide) (.agg #[.slice p n c, .int .i64 f, .int .i64 t, .int .i64 h, .int .i64 u]) w
  have a1 := fun w => no98 (t := 49) (by decide) (.agg #[.slice p n c, .int .i64 f, .int .i64 t, .int .i64 h, .int .i64 u]) w
  have a2 := fun w => no62 (t := 49) (by decide) (.agg #[.slice p n c, .int .i64 f, .int .i64 t, .int .i64 h, .int .i64 u]) w
  have a3 := fun w => no70 (t := 49) (by decide) (.agg #[.slice p n c, .int .i64 f, .int .i64 t, .int .i64 h, .int .i64 u]) w
  have a4 := fun w => no44 (t := 49) (by decide) (.agg #[.slice p n c, .int .i64 f, .int .i64 t, .int .i64 h, .int .i64 u]) w
  have a9 := fun w => yes49 (.agg #[.slice p n c, .int .i64 f, .int .i64 t, .int .i64 h, .int .i64 u]) w
  have HW2 := Lib.hid hw2
  clear hT hv hW hS hw2 hl2 hn hl
  go_enter Tryd.func11, Tryd.ntmps11
  go_upto_region 22 with fail
  rw [← HW2.out]
  have x0 : w2.cell? ⟨w.heap.size + 1, 0, none⟩ = some (.slice p n c) := Lib.cell_of_heap HG.out 0
  have x1 : w2.cell? ⟨w.heap.size + 1, 1, none⟩ = some (.int .i64 f) := Lib.cell_of_heap HG.out 1
  have x2 : w2.cell? ⟨w.heap.size + 1, 2, none⟩ = some (.int .i64 t) := Lib.cell_of_heap HG.out 2
  have x3 : w2.cell? ⟨w.heap.size + 1, 3, none⟩ = some (.int .i64 h) := Lib.cell_of_heap HG.out 3
  have x4 : w2.cell? ⟨w.heap.size + 1, 4, none⟩ = some (.int .i64 u) := Lib.cell_of_heap HG.out 4
  clear a0 a1 a2 a3 a4 a9 HW2
  go_wp2_with (first
    | (go_at_call 30; refine HN.out.mono ?_; rintro e w3 ⟨rfl, hr, hb3⟩; have H3 := Lib.hid hr; have HL3 := Lib.hid (HL2.out.trans hb3); clear hr hb3)
    | (go_at_call 33; refine (HT.out w3 H3.out).mono ?_; rintro e w4 ⟨rfl, hb4⟩; have HL4 := Lib.hid (HL3.out.trans hb4); clear hb4)
    | (go_at_call 32; refine (HWH.out w4 HL4.out).mono ?_; rintro e w5 ⟨T, E, rfl, hq, hb5⟩; have HQ := Lib.hid hq; have HL5 := Lib.hid (HL4.out.trans (hb5.mono HL4.out.size)); clear hb5 hq))
  go_ret2
  exact ⟨_, _, rfl, HQ.out, HL5.out⟩
/-! The bytes of segments of any bytes, and of how many units stand between two restarts. -/
set_option maxHeartbeats 2000000 in
set_option maxRecDepth 100000 in
theorem Bytes_restI (n : Int) (w : World) (hT : Tab w) (R : Prop) (S : ByteArray) (hS : S = ⟨(pbytes n 2).toArray⟩)
    (hW : ∀ x, Tab x → Calls Tryd.prog 32 #[.iface 76 (.agg #[.int .i64 n]), .string S] x fun e w' => WholeP 221 S R x e w') :
    Calls Tryd.prog 11 #[.iface 76 (.agg #[.int .i64 n])] w fun e w' => BytesP 221 S R w e w' := by
  have a0 := fun w => no58 (t := 76) (by decide) (.agg #[.int .i64 n]) w
  have a1 := fun w => no98 (t := 76) (by decide) (.agg #[.int .i64 n]) w
  have a2 := fun w => no62 (t := 76) (by decide) (.agg #[.int .i64 n]) w
  have a3 := fun w => no70 (t := 76) (by decide) (.agg #[.int .i64 n]) w
  have a4 := fun w => no44 (t := 76) (by decide) (.agg #[.int .i64 n]) w
  have a5 := fun w => no49 (t := 76) (by decide) (.agg #[.int .i64 n]) w
  have a6 := fun w => yes76 (.agg #[.int .i64 n]) w
  obtain ⟨w2, hw2⟩ : ∃ w2, w2 = (w.alloc (.cells #[.pointer none, .slice none 0 0] 95)).alloc (.cells #[.int .i64 n] 76) := ⟨_, rfl⟩
  have HB2 : Hid (Bld w.heap.size w.heap.size [] w2) := by rw [hw2]; exact (Bld.new w).on (below_new _ _)
  have HL2 : Hid (Below w.heap.size w w2) := by rw [hw2]; exact (below_new _ _).alloc (by rw [size_alloc]; omega) _
  have HN : Hid (Calls Tryd.prog 31 #[.pointer (some ⟨w.heap.size, 0, none⟩), .int .i64 n, .int .i64 2] w2 fun e w' => e = .returned (.tuple #[]) ∧ Bld w.heap.size w.heap.size (pbytes n 2) w' ∧ Below w.heap.size w2 w') := wnum_any _ _ [] n 2 w2 HB2.out (by simp)
  have HT : Hid (∀ x, Bld w.heap.size w.heap.size (pbytes n 2) x → Calls Tryd.prog 33 #[.pointer (some ⟨w.heap.size, 0, none⟩)] x fun e w' => e = .returned (.string S) ∧ Below w.heap.size x w') := fun x hx => by rw [hS]; exact String_any _ _ _ x hx (by have := hx.lt; omega)
  have HWH : Hid (∀ x, Below w.heap.size w x → Calls Tryd.prog 32 #[.iface 76 (.agg #[.int .i64 n]), .string S] x fun e w' => ∃ T E, e = .returned (.tuple #[.string T, .int .i64 E]) ∧ WholeQ 221 S R T E ∧ Below x.heap.size x w') := fun x hx => (hW x (hT.on hx)).mono fun e w' h => h.out
  have x0 : w2.cell? ⟨w.heap.size + 1, 0, none⟩ = some (.int .i64 n) := by
    have h := cell_one (w.alloc (.cells #[.pointer none, .slice none 0 0] 95)) (.int .i64 n) 76
    rw [← hw2, size_alloc] at h
    exact h
  have HX0 := Lib.hid x0
  have HW2 := Lib.hid hw2
  clear hT hW hS x0 hw2
  go_enter Tryd.func11, Tryd.ntmps11
  go_upto_region 25 with fail
  rw [← HW2.out]
  have x0 := HX0.out
  clear a0 a1 a2 a3 a4 a5 a6 HW2
  go_wp2_with (first
    | (go_at_call 31; refine HN.out.mono ?_; rintro e w3 ⟨rfl, hr, hb3⟩; have H3 := Lib.hid hr; have HL3 := Lib.hid (HL2.out.trans hb3); clear hr hb3)
    | (go_at_call 33; refine (HT.out w3 H3.out).mono ?_; rintro e w4 ⟨rfl, hb4⟩; have HL4 := Lib.hid (HL3.out.trans hb4); clear hb4)
    | (go_at_call 32; refine (HWH.out w4 HL4.out).mono ?_; rintro e w5 ⟨T, E, rfl, hq, hb5⟩; have HQ := Lib.hid hq; have HL5 := Lib.hid (HL4.out.trans (hb5.mono HL4.out.size)); clear hb5 hq))
  go_ret2
  exact ⟨_, _, rfl, HQ.out, HL5.out⟩
set_option maxHeartbeats 2000000 in
set_option maxRecDepth 100000 in
theorem Bytes_plain (z : Int) (s : ByteArray) (hs : s.size ≤ 1000000000) (w : World) (hT : Tab w) (R : Prop)
    (hW : ∀ x, Tab x → Calls Tryd.prog 32 #[.iface 98 (.agg #[.int .i64 z, .string s]), .string s] x fun e w' => WholeP z s R x e w') :
    Calls Tryd.prog 11 #[.iface 98 (.agg #[.int .i64 z, .string s])] w fun e w' => BytesP z s R w e w' := by
  have a0 := fun w => no58 (t := 98) (by decide) (.agg #[.int .i64 z, .string s]) w
  have a6 := fun w => yes98 (.agg #[.int .i64 z, .string s]) w
  obtain ⟨w2, hw2⟩ : ∃ w2, w2 = (w.alloc (.cells #[.pointer none, .slice none 0 0] 95)).alloc (.cells #[.int .i64 z, .string s] 98) := ⟨_, rfl⟩
  have hb2 : Bld w.heap.size w.heap.size [] w2 := by rw [hw2]; exact (Bld.new w).on (below_new _ _)
  have HL2 : Hid (Below w.heap.size w w2.drew) := by rw [hw2]; exact Below.drew ((below_new _ _).alloc (by rw [size_alloc]; omega) _)
  have x1 : w2.cell? ⟨w.heap.size + 1, 1, none⟩ = some (.string s) := by
    have h := heap_alloc_new (w.alloc (.cells #[.pointer none, .slice none 0 0] 95)) (.cells #[.int .i64 z, .string s] 98)
    rw [size_alloc, ← hw2] at h
    exact Lib.cell_of_heap h 1
  have HN : Hid (Calls Tryd.prog 26 #[.pointer (some ⟨w.heap.size, 0, none⟩), .string s] w2.drew fun e w' => e = .returned (.tuple #[.int .i64 s.size, .nilIface]) ∧ Bld w.heap.size w.heap.size s.data.toList w' ∧ Below w.heap.size w2.drew w') :=
    WriteString_any _ _ [] s w2.drew (hb2.on (Below.drew (Below.refl _ _))) (by simp; omega) (by have := hb2.lt; show w.heap.size ≤ w2.heap.size; omega)
  have HT : Hid (∀ x, Bld w.heap.size w.heap.size s.data.toList x → Calls Tryd.prog 33 #[.pointer (some ⟨w.heap.size, 0, none⟩)] x fun e w' => e = .returned (.string s) ∧ Below w.heap.size x w') := fun x hx => String_any _ _ _ x hx (by have := hx.lt; omega)
  have HWH : Hid (∀ x, Below w.heap.size w x → Calls Tryd.prog 32 #[.iface 98 (.agg #[.int .i64 z, .string s]), .string s] x fun e w' => ∃ T E, e = .returned (.tuple #[.string T, .int .i64 E]) ∧ WholeQ z s R T E ∧ Below x.heap.size x w') := fun x hx => (hW x (hT.on hx)).mono fun e w' h => h.out
  have HW2 := Lib.hid hw2
  have HX1 := Lib.hid x1
  clear hT hW hs x1 hw2 hb2
  go_enter Tryd.func11, Tryd.ntmps11
  go_upto_region 10 with fail
  rw [← HW2.out]
  have x1 := HX1.out
  clear a0 a6 HW2
  go_region_with (go_at_call 26; refine HN.out.mono ?_; rintro e w3 ⟨rfl, hr, hb3⟩)
  all_goals
    have H3 := Lib.hid hr
    have HL3 := Lib.hid (HL2.out.trans hb3)
    clear hr hb3
    go_wp2_with (first
      | (go_at_call 33; refine (HT.out w3 H3.out).mono ?_; rintro e w4 ⟨rfl, hb4⟩; have HL4 := Lib.hid (HL3.out.trans hb4); clear hb4)
      | (go_at_call 32; refine (HWH.out w4 HL4.out).mono ?_; rintro e w5 ⟨T, E, rfl, hq, hb5⟩; have HQ := Lib.hid hq; have HL5 := Lib.hid (HL4.out.trans (hb5.mono HL4.out.size)); clear hb5 hq))
    go_ret2
    exact ⟨_, _, rfl, HQ.out, HL5.out⟩
end Go.Proofs.YtfohgocdabgbgaaDoor
