/- The program's counts. -/
import Derived.Test.YtlfnjdgfllhepaaBSmall
namespace Go.Proofs.Ytlfnjdgfllhepaa
open Go.RowKit

theorem cnt_set (c : Nat → Nat) (p v : Nat) : (cnt c).setIfInBounds p (.int .u8 (v : Nat)) = cnt (upd c p v) := by
  apply Array.ext_getElem?
  intro i
  rw [Array.getElem?_setIfInBounds]
  by_cases hi : i < 16
  · rw [cnt_at (upd c p v) i hi, cnt_size]
    by_cases hp : p = i
    · subst hp; simp [hi, upd_same]
    · rw [if_neg hp, cnt_at c i hi, upd_ne c v (Ne.symm hp)]
  · have h1 : (cnt (upd c p v))[i]? = none := by rw [Array.getElem?_eq_none]; rw [cnt_size]; omega
    have h2 : (cnt c)[i]? = none := by rw [Array.getElem?_eq_none]; rw [cnt_size]; omega
    rw [h1, h2]
    by_cases hp : p = i
    · subst hp; simp [cnt_size, hi]
    · simp [hp]
theorem cnt_congr {c d : Nat → Nat} (h : ∀ i, i < 16 → c i = d i) : cnt c = cnt d := by
  unfold cnt
  congr 1
  exact List.map_congr_left fun i hi => by rw [h i (List.mem_range.1 hi)]
section
variable {g : Nat} {c : Nat → Nat} {w w' : World}
theorem RowC.free (h : RowC g c w) (i : Nat) : w.frozen? ⟨g, i, none⟩ = false := frozen_of_row w g i _ 23 h
theorem RowC.set (h : RowC g c w) (i v : Nat) : RowC g (upd c i v) (w.setCell ⟨g, i, none⟩ (.int .u8 (v : Nat))) := by
  unfold RowC; rw [heap_setCell_same w g i _ 23 _ h, cnt_set]
theorem RowC.old (h : RowC g c w) (o : Obj) : RowC g c (w.alloc o) := by
  unfold RowC; rw [Below.heap_alloc w o g h.lt]; exact h
theorem RowC.other (h : RowC g c w) {j i : Nat} (hj : g ≠ j) (v : Value) : RowC g c (w.setCell ⟨j, i, none⟩ v) := by
  unfold RowC; rw [heap_setCell_other w ⟨j, i, none⟩ g v hj]; exact h
theorem RowC.but {k : Nat} (h : RowC g c w) (hb : But k w w') (hg : g ≠ k) : RowC g c w' := by
  unfold RowC; rw [hb.block g hg h.lt]; exact h
theorem RowC.setRow {c' : Nat → Nat} (h : RowC g c w) : RowC g c' (w.setRow g (cnt c')) := setRow_heap w g _ _ 23 (0, 0) h
theorem RowC.congr {c' : Nat → Nat} (h : RowC g c w) (he : ∀ i, i < 16 → c i = c' i) : RowC g c' w := by
  unfold RowC; rw [← cnt_congr he]; exact h
end
theorem zero23 (w : World) : (zeroValue 23).run Try.prog w = .ok (.agg (cnt fun _ => 0)) w := zero_of (by kernel_rfl) w
/-- A cell's number. -/
def cellN (w : World) (k n : Nat) : Nat := match w.cell? ⟨k, n, none⟩ with
  | some (.int _ v) => v.toNat
  | _ => 0
theorem RowN.cellN {t : TypeId} {N g : Nat} {m : Nat → Nat} {w : World} (h : RowN t N g (fun i => (m i : Int)) w) {i : Nat} (hi : i < N) : cellN w g i = m i := by
  unfold Go.Proofs.Ytlfnjdgfllhepaa.cellN
  rw [h.cell hi]
  rfl
/-- What lies in memory while codes are counted. -/
structure CSt (B : Nat) (m : Nat → Nat) (w wr : World) : Prop where
  res : RowC (B + 1) (fun _ => 0) wr
  row : RowN 47 257 (B + 1 + 1) (fun i => (m i : Int)) wr
  low : Below B w wr
theorem CSt.short {B : Nat} {m m' : Nat → Nat} {w wr w' : World} (h : CSt B m w wr) (hr : RowN 47 257 (B + 1 + 1) (fun i => (m' i : Int)) w') (hb : But (B + 1 + 1) wr w') : CSt B m' w w' :=
  ⟨h.res.but hb (by omega), hr, h.low.trans (hb.below (by omega) (by have := h.row.lt; omega))⟩
theorem CSt.set {B : Nat} {m : Nat → Nat} {w wr : World} (h : CSt B m w wr) (i v : Nat) {z : Int} (hz : z = v) : CSt B (upd m i v) w (wr.setCell ⟨B + 1 + 1, i, none⟩ (.int .i64 z)) :=
  ⟨h.res.other (by omega) _, h.row.setN i v hz, below_cell h.low (by omega) _⟩
def ShortC (B : Nat) (m : Nat → Nat) (w : World) (n : Nat) : Prop := ∀ x, CSt B m w x → Calls Try.prog 29 #[.pointer (some ⟨B + 1 + 1, 0, none⟩), .int .i64 n] x fun e w' => e = .returned (.tuple #[]) ∧ CSt B (shc m n) w w'
theorem shortC {B : Nat} {m : Nat → Nat} {w : World} {n T : Nat} (hk : Kr m n T) (hn : 17 ≤ n) (hn' : n ≤ 256) (h0 : m n ≠ 0) : ShortC B m w n := fun x hx => by
  have hb : ∀ i, m i ≤ 100000 := fun i => by
    by_cases e : i < 300
    · have := off_at m e
      have := hk.sum
      have := hk.few
      omega
    · have := hk.out i (by omega)
      omega
  refine (shorten_any (B + 1 + 1) m n hn' hn (hk.shc hn (by omega) h0).2 hb (hk.shorter hn (by omega)) x hx.row).mono ?_
  rintro e w' ⟨rfl, h1, h2⟩
  exact ⟨rfl, hx.short h1 h2⟩

theorem size_set (w : World) (a : Addr) (v : Value) : (w.setCell a v).heap.size = w.heap.size := by
  simp
theorem great16 (k : Nat) (m : Nat → Nat) (J : Nat) (hJ : J = great m 16) (w : World) (hw : RowN 47 257 k (fun i => (m i : Int)) w) :
    Calls Try.prog 30 #[.pointer (some ⟨k, 0, none⟩), .int .i64 16] w fun e w' => e = .returned (.int .i64 J) ∧ w = w' := greatest_any k m 16 (by omega) J hJ w hw
theorem great_last {m : Nat → Nat} {T : Nat} (h : Kr m 16 T) : m (great m 16) ≠ 0 := by
  refine great_ne m 16 fun e => ?_
  have hl := h.last
  rw [e] at hl
  have h1 := hl.fill
  have h2 : ks m 0 = m 0 := rfl
  have h3 := h.zero
  rw [Nat.pow_zero] at h1
  omega
set_option maxHeartbeats 2000000 in
set_option maxRecDepth 100000 in
theorem counts_any (L : Nat → Nat) (hL : ∀ i, i < 257 → L i ≤ 256) (T : Nat) (hK : Kr (m0 L 257) 256 T) (C : Nat → Nat) (hC : C = fun i => fin (outr 256 (m0 L 257)) (i + 1)) (w : World) :
    Calls Try.prog 19 #[.agg (ints 257 fun i => (L i : Int))] w fun e w' => e = .returned (.agg (cnt C)) ∧ Below w.heap.size w w' := by
  obtain ⟨M, hM⟩ : ∃ M, M = m0 L 257 := ⟨_, rfl⟩
  rw [← hM] at hK hC
  have HL := Lib.hid hL
  have HK := Lib.hid hK
  obtain ⟨O, hO⟩ : ∃ O, O = outr 256 M := ⟨_, rfl⟩
  rw [← hO] at hC
  have HO0 := Lib.hid hO
  have HC := Lib.hid hC
  have HM := Lib.hid hM
  have hz47 := zero47
  have hz23 := zero23
  clear hL hK hC hM hO
  obtain ⟨wb, hwb⟩ : ∃ wb, wb = ((w.alloc (.cells (ints 257 fun i => (L i : Int)) 47)).alloc (.cells (cnt fun _ => 0) 23)).alloc (.cells (ints 257 fun _ => 0) 47) := ⟨_, rfl⟩
  have R0 : Hid (RowN 47 257 w.heap.size (fun i => (L i : Int)) wb) := by rw [hwb]; exact ((RowN.new rfl).old _).old _
  have R1 : Hid (CSt w.heap.size (cn L 0) w wb) := by
    refine ⟨?_, ?_, ?_⟩
    · rw [hwb]
      have h := (RowC.new (fun _ => 0) (w.alloc (.cells (ints 257 fun i => (L i : Int)) 47))).old (.cells (ints 257 fun _ => 0) 47)
      rwa [size_alloc] at h
    · rw [hwb]
      have h := RowN.new (t := 47) (N := 257) (f := fun _ => 0) (w := (w.alloc (.cells (ints 257 fun i => (L i : Int)) 47)).alloc (.cells (cnt fun _ => 0) 23)) rfl
      rw [size_alloc, size_alloc] at h
      exact h
    · rw [hwb]
      exact (((Below.refl _ _).alloc (Nat.le_refl _) _).alloc (by rw [size_alloc]; omega) _).alloc (by rw [size_alloc, size_alloc]; omega) _
  go_enter Try.func19, Try.ntmps19
  go_wp2
  rw [← hwb]
  clear hwb hz47
  go_loopw [8] (fun i wr => ∃ n : Nat, n ≤ 257 ∧ i = .int .i64 n ∧ RowN 47 257 w.heap.size (fun i => (L i : Int)) wr ∧ CSt w.heap.size (cn L n) w wr) (fun i _ => 257 - (intOf i).toNat)
  case atStart => exact ⟨0, by omega, rfl, R0.out, R1.out⟩
  case round =>
    obtain ⟨n, hn, rfl, h1, h2⟩ := hrel
    have H1 := Lib.hid h1
    have H2 := Lib.hid h2
    clear h1 h2
    by_cases hlt : n < 257
    · have x0 := H1.out.cell (i := n) (by omega)
      have hl := HL.out n hlt
      have x1 := H2.out.row.cell (i := L n) (by omega)
      have x2 := H2.out.row.free (L n)
      have hc := cn_le L n (L n)
      have HS := Lib.hid (cn_step L n)
      generalize hq : cn L n (L n) = q at *
      generalize hp : L n = p at *
      go_wp2
      go_roundw
      case rel => exact ⟨n + 1, by omega, by go_num, H1.out.other (by omega) _, by rw [HS.out]; exact H2.out.set p (q + 1) (by omega)⟩
      case measure => simp [intOf]; omega
    · obtain rfl : n = 257 := by omega
      have x0 := H2.out.row.free 0
      have x1 := H2.out.row.cell (i := 0) (by omega)
      generalize cn L 257 0 = q at x1
      clear hlt
      rw [show ((257 : Nat) : Int) = 257 from rfl]
      go_wp2
      obtain ⟨wd, hwd⟩ : ∃ wd, wd = wr.setCell { block := w.heap.size + 1 + 1, off := 0 } (Value.int IntKind.i64 0) := ⟨_, rfl⟩
      rw [← hwd]
      have H3 : Hid (CSt w.heap.size M w wd) := by
        rw [hwd, HM.out]
        exact H2.out.set 0 0 rfl
      clear hwd x0 x1 H1 H2
      go_loopw [5] (fun i wr => ∃ (n : Nat) (m : Nat → Nat), 16 ≤ n ∧ n ≤ 256 ∧ i = .int .i64 n ∧ O = outr n m ∧ Kr m n T ∧ CSt w.heap.size m w wr) (fun i _ => (intOf i).toNat)
      case atStart => exact ⟨256, M, by omega, by omega, rfl, HO0.out, HK.out, H3.out⟩
      case round =>
        obtain ⟨n, m, hn1, hn2, rfl, ho, hk, hs⟩ := hrel
        have HO := Lib.hid ho
        have HK2 := Lib.hid hk
        have HS := Lib.hid hs
        clear ho hk hs
        by_cases hlt : 16 < n
        · go_wp2
          rw [show decide ((16 : Int) < (n : Int)) = true from by simp; omega]
          go_loopw [26] (fun _ wr => ∃ (m' : Nat → Nat), innr m n = innr m' n ∧ Kr m' n T ∧ CSt w.heap.size m' w wr) (fun _ wr => cellN wr (w.heap.size + 1 + 1) n)
          case atStart => exact ⟨m, rfl, HK2.out, HS.out⟩
          case round =>
            obtain ⟨m', hi, hk, hs⟩ := hrel
            have x0 := hs.row.cell (i := n) (by omega)
            have HI := Lib.hid hi
            have HK3 := Lib.hid hk
            have HS3 := Lib.hid hs
            clear hi hs
            by_cases h0 : m' n = 0
            · have HE : Hid (outr n m = outr (n - 1) m') := by
                unfold Hid
                rw [outr_step hlt, HI.out, innr_done h0]
              have HK4 : Hid (Kr m' (n - 1) T) := by
                obtain ⟨q, rfl⟩ : ∃ q, n = q + 1 := ⟨n - 1, by omega⟩
                exact hk.down h0
              rw [h0] at x0
              clear hk
              go_wp2
              go_roundw
              case rel => exact ⟨n - 1, m', by omega, by omega, by go_num, HO.out.trans HE.out, HK4.out, HS3.out⟩
              case measure => simp [intOf]; omega
            · have HC3 := Lib.hid (shortC (B := w.heap.size) (w := w) hk (by omega) hn2 h0)
              have HK4 := Lib.hid (hk.shc (by omega) (by omega) h0).1
              have HT := Lib.hid (shc_top m' n (by omega))
              have HE : Hid (innr m n = innr (shc m' n) n) := by
                unfold Hid
                rw [HI.out, innr_step (by omega) h0]
              have hp : 0 < m' n := by omega
              clear hk h0
              go_wp2_with (go_at_call 29; refine (HC3.out _ HS3.out).mono ?_; rintro e w3 ⟨rfl, hb3⟩; have HS4 := Lib.hid hb3; clear hb3)
              go_roundw
              case rel => exact ⟨shc m' n, HE.out, HK4.out, HS4.out⟩
              case measure =>
                rw [HS3.out.row.cellN (by omega), HS4.out.row.cellN (by omega), HT.out]
                omega
        · obtain rfl : n = 16 := by omega
          have hk := HK2.out
          obtain ⟨J, hJ⟩ : ∃ J, J = great m 16 := ⟨_, rfl⟩
          have hJ0 : J ≤ 16 := by rw [hJ]; exact great_le m 16
          have hJ1 : m J ≠ 0 := by rw [hJ]; exact great_last hk
          have HG := Lib.hid (great16 (w.heap.size + 1 + 1) m J hJ wr HS.out.row)
          have x0 := HS.out.row.cell (i := J) (by omega)
          have x1 := HS.out.row.free J
          have hb : m J ≤ 257 := by
            have h1 := off_at m (i := J) (n := 300) (by omega)
            have h2 := hk.sum
            have h3 := hk.few
            omega
          have hp : 1 ≤ m J := by omega
          have HCm : Hid (∀ i, C i = upd m J (m J - 1) (i + 1)) := by
            intro i
            rw [HC.out, HO.out, outr_done (by omega)]
            unfold fin
            rw [← hJ]
          have HC8 : Hid (∀ i, C i < 256) := by
            intro i
            rw [HCm.out, hJ]
            exact (fin_right hk).2.1 i
          have HD : Hid (CSt w.heap.size (upd m J (m J - 1)) w (wr.setCell ⟨w.heap.size + 1 + 1, J, none⟩ (.int .i64 ((m J : Int) - 1)))) := HS.out.set J (m J - 1) (by omega)
          clear hk hJ hJ1 hlt
          generalize hz : m J = z at *
          go_wp2_with (go_at_call 30; refine HG.out.mono ?_; rintro e w3 ⟨rfl, rfl⟩; clear HG)
          obtain ⟨wd, hwd⟩ : ∃ wd, wd = (wr.setCell { block := w.heap.size + 1 + 1, off := J } (Value.int IntKind.i64 (↑z - 1))).alloc (Obj.cells (cnt fun x => 0) 23) := ⟨_, rfl⟩
          rw [← hwd]
          have hlt := HS.out.row.lt
          have hsz : (wr.setCell { block := w.heap.size + 1 + 1, off := J } (Value.int IntKind.i64 (↑z - 1))).heap.size = wr.heap.size := size_set _ _ _
          have E1 : Hid (CSt w.heap.size (upd m J (z - 1)) w wd) := by
            rw [hwd]
            exact ⟨HD.out.res.old _, HD.out.row.old _, HD.out.low.alloc (by omega) _⟩
          have E2 : Hid (RowC wr.heap.size (fun _ => 0) wd) := by
            rw [hwd, ← hsz]
            exact RowC.new _ _
          clear hwd hsz HD x0 x1
          generalize hg : wr.heap.size = g at *
          clear hg
          clear HS
          go_loopw [35] (fun i wr => ∃ n : Nat, n ≤ 16 ∧ i = .int .i64 n ∧ CSt w.heap.size (upd m J (z - 1)) w wr ∧ RowC g (fun i => if i < n then C i else 0) wr) (fun i _ => 16 - (intOf i).toNat)
          case atStart => exact ⟨0, by omega, rfl, E1.out, E2.out.congr fun i _ => (if_neg (by omega)).symm⟩
          case round =>
            obtain ⟨n, hn, rfl, h1, h2⟩ := hrel
            have H1 := Lib.hid h1
            have H2 := Lib.hid h2
            clear h1 h2
            by_cases hlt2 : n < 16
            · have x0 := H1.out.row.cell (i := n + 1) (by omega)
              rw [← HCm.out n] at x0
              have x1 := H2.out.cell (i := n) hlt2
              have x2 := H2.out.free n
              have hc8 := HC8.out n
              have HC9 : Hid (∀ i, i < 16 → upd (fun i => if i < n then C i else 0) n (C n) i = if i < n + 1 then C i else 0) := by
                intro i _
                by_cases e : i = n
                · subst e; rw [upd_same, if_pos (by omega)]
                · rw [upd_ne _ _ e]
                  by_cases e2 : i < n
                  · rw [if_pos e2, if_pos (by omega)]
                  · rw [if_neg e2, if_neg (by omega)]
              generalize (if n < n then C n else 0) = y at x1
              generalize hcn : C n = cv at *
              go_wp2
              go_roundw
              case rel => exact ⟨n + 1, by omega, by go_num, ⟨H1.out.res.other (by omega) _, H1.out.row.other (by omega) _, below_cell H1.out.low (by omega) _⟩, (H2.out.set n cv).congr HC9.out⟩
              case measure => simp [intOf]; omega
            · obtain rfl : n = 16 := by omega
              have HC10 : Hid (RowC g C wr) := H2.out.congr fun i hi => if_pos hi
              clear hlt2
              go_wp2_with (first
                | refine wpList_load_row rfl 23 _ rfl g rfl 23 _ (0, 0) _ HC10.out Try.underlying23 rfl (size22 _) ?_
                | refine wpList_store_row rfl 23 _ _ rfl (w.heap.size + 1) _ rfl rfl 23 _ H1.out.res (size22 _) ((cnt_size _).trans (cnt_size _).symm) (cnt_one _) ?_)
              refine bodyPost_ret_by (results_cell_row rfl _ _ (w.heap.size + 1) 23 _ (0, 0) _ rfl (RowC.setRow (c' := C) H1.out.res) Try.underlying23 rfl (size22 _)) rfl ⟨rfl, below_setRow H1.out.low (by omega) _⟩
end Go.Proofs.Ytlfnjdgfllhepaa
