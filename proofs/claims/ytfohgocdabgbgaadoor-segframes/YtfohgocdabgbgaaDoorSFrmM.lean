/- (The law's own) whether a frame may be so. -/
import Derived.Test.YtfohgocdabgbgaaDoorRFrameM
import Derived.Test.YtfohgocdabgbgaaDoorMBytM
import Derived.Test.YtfohgocdabgbgaaDoorMixG
import Derived.Test.YtfohgocdabgbgaaDoorRLawM
import Derived.ChangeSlices
import Derived.ProofKit
import Derived.OpenShut
import Derived.Carry
import Derived.Deep.Slices
import Derived.Deep.Strs
namespace Go.Proofs.YtfohgocdabgbgaaDoor
open Go.RowKit

/-! (The law's own) whether a frame may be so. -/
def partOk (p : PT) : Prop := 0 ≤ p.1 ∧ p.1 ≤ 255 ∧ 1 ≤ p.2.1 ∧ p.2.1 ≤ 4 ∧ 1 ≤ p.2.2.1 ∧ p.2.2.1 ≤ 4 ∧ 0 ≤ p.2.2.2 ∧ p.2.2.2 ≤ 3
/-- A frame that may be. -/
structure RightF (z h u : Int) (l : List PT) : Prop where
  code : 192 ≤ z ∧ z ≤ 194
  high : 1 ≤ h ∧ h ≤ 16384
  wide : 1 ≤ u ∧ u ≤ 16384
  few : 1 ≤ l.length ∧ l.length ≤ 4
  parts : ∀ i (hi : i < l.length), partOk l[i]
  once : ∀ i (hi : i < l.length) k (hk : k < i), l[k].1 ≠ l[i].1
def RightPost (z h u : Int) (l : List PT) (w : World) (e : Ending) (w' : World) : Prop := ∃ b, e = .returned (.bool b) ∧ (b = true ↔ RightF z h u l) ∧ Below w.heap.size w w'
set_option maxRecDepth 100000 in
set_option maxHeartbeats 8000000 in
theorem right_any (z h u : Int) (v : Value) (l : List PT) (hl : l.length ≤ 1000) (w : World) (hv : RowV 4 cellsP v l w) :
    Calls Tryd.prog 19 #[.int .i64 z, .int .i64 h, .int .i64 u, v] w fun e w' => RightPost z h u l w e w' := by
  obtain ⟨p, m, c, rfl, hm⟩ := hv.shape
  have HV := Lib.hid hv
  have HM := Lib.hid hm.out
  have hml : m ≤ 1000 := by rw [hm.out]; exact hl
  clear hv hl hm
  go_enter Tryd.func19, Tryd.ntmps19
  by_cases c0 : z < 192
  · skip
    go_wp2
    go_ret
    exact ⟨false, rfl, ⟨fun h => (by cases h), fun h => absurd h.code.1 (by omega)⟩, Below.refl _ _⟩
  replace c0 : 192 ≤ z := by omega
  by_cases c1 : 194 < z
  · skip
    go_wp2
    go_ret
    exact ⟨false, rfl, ⟨fun h => (by cases h), fun h => absurd h.code.2 (by omega)⟩, Below.refl _ _⟩
  replace c1 : z ≤ 194 := by omega
  by_cases c2 : h < 1
  · skip
    go_wp2
    go_ret
    exact ⟨false, rfl, ⟨fun h => (by cases h), fun h => absurd h.high.1 (by omega)⟩, Below.refl _ _⟩
  replace c2 : 1 ≤ h := by omega
  by_cases c3 : 16384 < h
  · skip
    go_wp2
    go_ret
    exact ⟨false, rfl, ⟨fun h => (by cases h), fun h => absurd h.high.2 (by omega)⟩, Below.refl _ _⟩
  replace c3 : h ≤ 16384 := by omega
  by_cases c4 : u < 1
  · skip
    go_wp2
    go_ret
    exact ⟨false, rfl, ⟨fun h => (by cases h), fun h => absurd h.wide.1 (by omega)⟩, Below.refl _ _⟩
  replace c4 : 1 ≤ u := by omega
  by_cases c5 : 16384 < u
  · skip
    go_wp2
    go_ret
    exact ⟨false, rfl, ⟨fun h => (by cases h), fun h => absurd h.wide.2 (by omega)⟩, Below.refl _ _⟩
  replace c5 : u ≤ 16384 := by omega
  by_cases c6 : m < 1
  · have hq : (m : Int) < 1 := by omega
    have HF := Lib.hid fun h : RightF z h u l => (show False from by have := h.few.1; rw [← HM.out] at this; omega)
    clear c6
    go_wp2
    go_ret
    exact ⟨false, rfl, ⟨fun h => (by cases h), fun h => (HF.out h).elim⟩, Below.refl _ _⟩
  by_cases c7 : 4 < m
  · have hq : ¬ (m : Int) < 1 := by omega
    have hq2 : (4 : Int) < (m : Int) := by omega
    have HF := Lib.hid fun h : RightF z h u l => (show False from by have := h.few.2; rw [← HM.out] at this; omega)
    clear c6 c7
    go_wp2
    go_ret
    exact ⟨false, rfl, ⟨fun h => (by cases h), fun h => (HF.out h).elim⟩, Below.refl _ _⟩
  have hq : ¬ (m : Int) < 1 := by omega
  have hq2 : ¬ (4 : Int) < (m : Int) := by omega
  have HC := Lib.hid (show (192 ≤ z ∧ z ≤ 194) ∧ (1 ≤ h ∧ h ≤ 16384) ∧ (1 ≤ u ∧ u ≤ 16384) ∧ (1 ≤ m ∧ m ≤ 4) by omega)
  go_wp2
  clear c0 c1 c2 c3 c4 c5 c6 c7 hq hq2
  go_loopw [9] (fun iv wr => ∃ i : Nat, iv = .int .i64 i ∧ i ≤ m ∧ (∀ j (hj : j < l.length), j < i → partOk l[j] ∧ ∀ k (hk : k < j), l[k].1 ≠ l[j].1) ∧ Below w.heap.size w wr) (fun iv _ => m - (intOf iv).toNat)
  case atStart => exact ⟨0, rfl, Nat.zero_le _, fun j _ h => by omega, Below.refl _ _⟩
  case round =>
    obtain ⟨i, rfl, hi, hok, hB⟩ := hrel
    rename World => wo
    have HOK := Lib.hid hok
    have HB := Lib.hid hB
    have HVW := Lib.hid (HV.out.on cellsP_size hB)
    clear hok hB
    by_cases hlt : i < m
    · have hil : i < l.length := by rw [← HM.out]; exact hlt
      obtain ⟨b, o, cc, hv, hbl0, hc⟩ := HVW.out.lies (by omega)
      have hbl := Lib.hid hbl0
      simp only [Value.slice.injEq] at hv
      obtain ⟨rfl, hm2, rfl⟩ := hv
      have HCC := Lib.hid hc
      obtain ⟨y0, y1, y2, y3⟩ := part_cells hc hil
      have HLI := Lib.hid hil
      have him : (i : Int) < (m : Int) := by omega
      have HPK := Lib.hid fun (hn : ¬ partOk l[i]) (h : RightF z h u l) => hn (h.parts i hil)
      have HPY := Lib.hid fun (hn : partOk l[i]) => hn
      have HON := Lib.hid fun k (hkl : k < l.length) (hk : k < i) (hn : (l[k]'hkl).1 = (l[i]'hil).1) (h : RightF z h u l) => h.once i hil k hk hn
      have HNX := Lib.hid fun (hp : partOk l[i]) (hn : ∀ k (hkl : k < l.length), k < i → (l[k]'hkl).1 ≠ (l[i]'hil).1) => (show ∀ j (hj : j < l.length), j < i + 1 → partOk l[j] ∧ ∀ k (hk : k < j), l[k].1 ≠ l[j].1 from fun j hj hj2 => by
        by_cases e : j = i
        · subst e; exact ⟨hp, fun k hk => hn k (by omega) hk⟩
        · exact HOK.out j hj (by omega))
      generalize hX : l[i] = X at *
      obtain ⟨X0, X1, X2, X3⟩ := X
      simp only [] at y0 y1 y2 y3
      have HX := Lib.hid hX
      clear hc hm2 hX hil hbl0
      by_cases d0 : X0 < 0
      · have HF := Lib.hid (HPK.out (fun h => by obtain ⟨h0, h1, h2, h3, h4, h5, h6, h7⟩ := h; simp only [] at h0 h1 h2 h3 h4 h5 h6 h7; omega))
        clear HPK HPY HON HNX HCC
        go_wp2_with (refine wpList_freshE rfl 79 _ _ rfl wo _ rfl (cellsP (X0, X1, X2, X3)) rfl rfl (size79 _) rfl (cellsP_one _) ?_; intro wp hp hbp; have HPB := Lib.hid (HB.out.trans (hbp.mono HB.out.size)); have HBP := Lib.hid hbp; have HWL := Lib.hid (Array.getElem?_eq_some_iff.1 hp).1; have x0 : wp.cell? ⟨wo.heap.size, 0, none⟩ = some (.int .i64 X0) := Lib.cell_of_heap hp 0; have x1 : wp.cell? ⟨wo.heap.size, 1, none⟩ = some (.int .i64 X1) := Lib.cell_of_heap hp 1; have x2 : wp.cell? ⟨wo.heap.size, 2, none⟩ = some (.int .i64 X2) := Lib.cell_of_heap hp 2; have x3 : wp.cell? ⟨wo.heap.size, 3, none⟩ = some (.int .i64 X3) := Lib.cell_of_heap hp 3; clear hp hbp y0 y1 y2 y3)
        go_ret
        exact ⟨false, rfl, ⟨fun h => (by cases h), fun h => (HF.out h).elim⟩, HPB.out⟩
      by_cases d1 : 255 < X0
      · have HF := Lib.hid (HPK.out (fun h => by obtain ⟨h0, h1, h2, h3, h4, h5, h6, h7⟩ := h; simp only [] at h0 h1 h2 h3 h4 h5 h6 h7; omega))
        clear HPK HPY HON HNX HCC
        go_wp2_with (refine wpList_freshE rfl 79 _ _ rfl wo _ rfl (cellsP (X0, X1, X2, X3)) rfl rfl (size79 _) rfl (cellsP_one _) ?_; intro wp hp hbp; have HPB := Lib.hid (HB.out.trans (hbp.mono HB.out.size)); have HBP := Lib.hid hbp; have HWL := Lib.hid (Array.getElem?_eq_some_iff.1 hp).1; have x0 : wp.cell? ⟨wo.heap.size, 0, none⟩ = some (.int .i64 X0) := Lib.cell_of_heap hp 0; have x1 : wp.cell? ⟨wo.heap.size, 1, none⟩ = some (.int .i64 X1) := Lib.cell_of_heap hp 1; have x2 : wp.cell? ⟨wo.heap.size, 2, none⟩ = some (.int .i64 X2) := Lib.cell_of_heap hp 2; have x3 : wp.cell? ⟨wo.heap.size, 3, none⟩ = some (.int .i64 X3) := Lib.cell_of_heap hp 3; clear hp hbp y0 y1 y2 y3)
        go_ret
        exact ⟨false, rfl, ⟨fun h => (by cases h), fun h => (HF.out h).elim⟩, HPB.out⟩
      by_cases d2 : X1 < 1
      · have HF := Lib.hid (HPK.out (fun h => by obtain ⟨h0, h1, h2, h3, h4, h5, h6, h7⟩ := h; simp only [] at h0 h1 h2 h3 h4 h5 h6 h7; omega))
        clear HPK HPY HON HNX HCC
        go_wp2_with (refine wpList_freshE rfl 79 _ _ rfl wo _ rfl (cellsP (X0, X1, X2, X3)) rfl rfl (size79 _) rfl (cellsP_one _) ?_; intro wp hp hbp; have HPB := Lib.hid (HB.out.trans (hbp.mono HB.out.size)); have HBP := Lib.hid hbp; have HWL := Lib.hid (Array.getElem?_eq_some_iff.1 hp).1; have x0 : wp.cell? ⟨wo.heap.size, 0, none⟩ = some (.int .i64 X0) := Lib.cell_of_heap hp 0; have x1 : wp.cell? ⟨wo.heap.size, 1, none⟩ = some (.int .i64 X1) := Lib.cell_of_heap hp 1; have x2 : wp.cell? ⟨wo.heap.size, 2, none⟩ = some (.int .i64 X2) := Lib.cell_of_heap hp 2; have x3 : wp.cell? ⟨wo.heap.size, 3, none⟩ = some (.int .i64 X3) := Lib.cell_of_heap hp 3; clear hp hbp y0 y1 y2 y3)
        go_ret
        exact ⟨false, rfl, ⟨fun h => (by cases h), fun h => (HF.out h).elim⟩, HPB.out⟩
      by_cases d3 : 4 < X1
      · have HF := Lib.hid (HPK.out (fun h => by obtain ⟨h0, h1, h2, h3, h4, h5, h6, h7⟩ := h; simp only [] at h0 h1 h2 h3 h4 h5 h6 h7; omega))
        clear HPK HPY HON HNX HCC
        go_wp2_with (refine wpList_freshE rfl 79 _ _ rfl wo _ rfl (cellsP (X0, X1, X2, X3)) rfl rfl (size79 _) rfl (cellsP_one _) ?_; intro wp hp hbp; have HPB := Lib.hid (HB.out.trans (hbp.mono HB.out.size)); have HBP := Lib.hid hbp; have HWL := Lib.hid (Array.getElem?_eq_some_iff.1 hp).1; have x0 : wp.cell? ⟨wo.heap.size, 0, none⟩ = some (.int .i64 X0) := Lib.cell_of_heap hp 0; have x1 : wp.cell? ⟨wo.heap.size, 1, none⟩ = some (.int .i64 X1) := Lib.cell_of_heap hp 1; have x2 : wp.cell? ⟨wo.heap.size, 2, none⟩ = some (.int .i64 X2) := Lib.cell_of_heap hp 2; have x3 : wp.cell? ⟨wo.heap.size, 3, none⟩ = some (.int .i64 X3) := Lib.cell_of_heap hp 3; clear hp hbp y0 y1 y2 y3)
        go_ret
        exact ⟨false, rfl, ⟨fun h => (by cases h), fun h => (HF.out h).elim⟩, HPB.out⟩
      by_cases d4 : X2 < 1
      · have HF := Lib.hid (HPK.out (fun h => by obtain ⟨h0, h1, h2, h3, h4, h5, h6, h7⟩ := h; simp only [] at h0 h1 h2 h3 h4 h5 h6 h7; omega))
        clear HPK HPY HON HNX HCC
        go_wp2_with (refine wpList_freshE rfl 79 _ _ rfl wo _ rfl (cellsP (X0, X1, X2, X3)) rfl rfl (size79 _) rfl (cellsP_one _) ?_; intro wp hp hbp; have HPB := Lib.hid (HB.out.trans (hbp.mono HB.out.size)); have HBP := Lib.hid hbp; have HWL := Lib.hid (Array.getElem?_eq_some_iff.1 hp).1; have x0 : wp.cell? ⟨wo.heap.size, 0, none⟩ = some (.int .i64 X0) := Lib.cell_of_heap hp 0; have x1 : wp.cell? ⟨wo.heap.size, 1, none⟩ = some (.int .i64 X1) := Lib.cell_of_heap hp 1; have x2 : wp.cell? ⟨wo.heap.size, 2, none⟩ = some (.int .i64 X2) := Lib.cell_of_heap hp 2; have x3 : wp.cell? ⟨wo.heap.size, 3, none⟩ = some (.int .i64 X3) := Lib.cell_of_heap hp 3; clear hp hbp y0 y1 y2 y3)
        go_ret
        exact ⟨false, rfl, ⟨fun h => (by cases h), fun h => (HF.out h).elim⟩, HPB.out⟩
      by_cases d5 : 4 < X2
      · have HF := Lib.hid (HPK.out (fun h => by obtain ⟨h0, h1, h2, h3, h4, h5, h6, h7⟩ := h; simp only [] at h0 h1 h2 h3 h4 h5 h6 h7; omega))
        clear HPK HPY HON HNX HCC
        go_wp2_with (refine wpList_freshE rfl 79 _ _ rfl wo _ rfl (cellsP (X0, X1, X2, X3)) rfl rfl (size79 _) rfl (cellsP_one _) ?_; intro wp hp hbp; have HPB := Lib.hid (HB.out.trans (hbp.mono HB.out.size)); have HBP := Lib.hid hbp; have HWL := Lib.hid (Array.getElem?_eq_some_iff.1 hp).1; have x0 : wp.cell? ⟨wo.heap.size, 0, none⟩ = some (.int .i64 X0) := Lib.cell_of_heap hp 0; have x1 : wp.cell? ⟨wo.heap.size, 1, none⟩ = some (.int .i64 X1) := Lib.cell_of_heap hp 1; have x2 : wp.cell? ⟨wo.heap.size, 2, none⟩ = some (.int .i64 X2) := Lib.cell_of_heap hp 2; have x3 : wp.cell? ⟨wo.heap.size, 3, none⟩ = some (.int .i64 X3) := Lib.cell_of_heap hp 3; clear hp hbp y0 y1 y2 y3)
        go_ret
        exact ⟨false, rfl, ⟨fun h => (by cases h), fun h => (HF.out h).elim⟩, HPB.out⟩
      by_cases d6 : X3 < 0
      · have HF := Lib.hid (HPK.out (fun h => by obtain ⟨h0, h1, h2, h3, h4, h5, h6, h7⟩ := h; simp only [] at h0 h1 h2 h3 h4 h5 h6 h7; omega))
        clear HPK HPY HON HNX HCC
        go_wp2_with (refine wpList_freshE rfl 79 _ _ rfl wo _ rfl (cellsP (X0, X1, X2, X3)) rfl rfl (size79 _) rfl (cellsP_one _) ?_; intro wp hp hbp; have HPB := Lib.hid (HB.out.trans (hbp.mono HB.out.size)); have HBP := Lib.hid hbp; have HWL := Lib.hid (Array.getElem?_eq_some_iff.1 hp).1; have x0 : wp.cell? ⟨wo.heap.size, 0, none⟩ = some (.int .i64 X0) := Lib.cell_of_heap hp 0; have x1 : wp.cell? ⟨wo.heap.size, 1, none⟩ = some (.int .i64 X1) := Lib.cell_of_heap hp 1; have x2 : wp.cell? ⟨wo.heap.size, 2, none⟩ = some (.int .i64 X2) := Lib.cell_of_heap hp 2; have x3 : wp.cell? ⟨wo.heap.size, 3, none⟩ = some (.int .i64 X3) := Lib.cell_of_heap hp 3; clear hp hbp y0 y1 y2 y3)
        go_ret
        exact ⟨false, rfl, ⟨fun h => (by cases h), fun h => (HF.out h).elim⟩, HPB.out⟩
      by_cases d7 : 3 < X3
      · have HF := Lib.hid (HPK.out (fun h => by obtain ⟨h0, h1, h2, h3, h4, h5, h6, h7⟩ := h; simp only [] at h0 h1 h2 h3 h4 h5 h6 h7; omega))
        clear HPK HPY HON HNX HCC
        go_wp2_with (refine wpList_freshE rfl 79 _ _ rfl wo _ rfl (cellsP (X0, X1, X2, X3)) rfl rfl (size79 _) rfl (cellsP_one _) ?_; intro wp hp hbp; have HPB := Lib.hid (HB.out.trans (hbp.mono HB.out.size)); have HBP := Lib.hid hbp; have HWL := Lib.hid (Array.getElem?_eq_some_iff.1 hp).1; have x0 : wp.cell? ⟨wo.heap.size, 0, none⟩ = some (.int .i64 X0) := Lib.cell_of_heap hp 0; have x1 : wp.cell? ⟨wo.heap.size, 1, none⟩ = some (.int .i64 X1) := Lib.cell_of_heap hp 1; have x2 : wp.cell? ⟨wo.heap.size, 2, none⟩ = some (.int .i64 X2) := Lib.cell_of_heap hp 2; have x3 : wp.cell? ⟨wo.heap.size, 3, none⟩ = some (.int .i64 X3) := Lib.cell_of_heap hp 3; clear hp hbp y0 y1 y2 y3)
        go_ret
        exact ⟨false, rfl, ⟨fun h => (by cases h), fun h => (HF.out h).elim⟩, HPB.out⟩
      have hpo : partOk (X0, X1, X2, X3) := ⟨by show 0 ≤ X0; omega, by show X0 ≤ 255; omega, by show 1 ≤ X1; omega, by show X1 ≤ 4; omega, by show 1 ≤ X2; omega, by show X2 ≤ 4; omega, by show 0 ≤ X3; omega, by show X3 ≤ 3; omega⟩
      have HPO := Lib.hid hpo
      clear HPK HPY hpo
      go_wp2_with (refine wpList_freshE rfl 79 _ _ rfl wo _ rfl (cellsP (X0, X1, X2, X3)) rfl rfl (size79 _) rfl (cellsP_one _) ?_; intro wp hp hbp; have HPB := Lib.hid (HB.out.trans (hbp.mono HB.out.size)); have HBP := Lib.hid hbp; have HWL := Lib.hid (Array.getElem?_eq_some_iff.1 hp).1; have x0 : wp.cell? ⟨wo.heap.size, 0, none⟩ = some (.int .i64 X0) := Lib.cell_of_heap hp 0; have x1 : wp.cell? ⟨wo.heap.size, 1, none⟩ = some (.int .i64 X1) := Lib.cell_of_heap hp 1; have x2 : wp.cell? ⟨wo.heap.size, 2, none⟩ = some (.int .i64 X2) := Lib.cell_of_heap hp 2; have x3 : wp.cell? ⟨wo.heap.size, 3, none⟩ = some (.int .i64 X3) := Lib.cell_of_heap hp 3; clear hp hbp y0 y1 y2 y3)
      have HVC : Hid (∀ W, Below wp.heap.size wp W → ∀ j (h : j < l.length) i, i < 4 → W.cell? ⟨b, o + (j * 4 + i), none⟩ = (cellsP l[j])[i]?) := by
        intro W hW j hj i hi
        have h1 := hbl.out
        have h2 := HBP.out.size
        rw [hW.cell (p := ⟨b, _, none⟩) (by show b < wp.heap.size; omega), HBP.out.cell (p := ⟨b, _, none⟩) h1]
        exact HCC.out j hj i hi
      clear d0 d1 d2 d3 d4 d5 d6 d7 x1 x2
      have hWRl : wo.heap.size < wp.heap.size := HWL.out
      have HWL2 := Lib.hid hWRl
      have X0C := Lib.hid x0
      have HAB := Lib.hid (HB.out.size)
      have x3c := x3
      clear x0 x3c hWRl
      go_loopw [11] (fun kv wq => ∃ k : Nat, kv = .int .i64 k ∧ k ≤ i ∧ (∀ k2 (h : k2 < l.length), k2 < k → (l[k2]'h).1 ≠ X0) ∧ Below wp.heap.size wp wq) (fun kv _ => i - (intOf kv).toNat)
      case atStart => exact ⟨0, rfl, Nat.zero_le _, fun _ _ h => by omega, Below.refl _ _⟩
      case round =>
        obtain ⟨k, rfl, hk, hne, hQ⟩ := hrel
        have HNE := Lib.hid hne
        have HQ := Lib.hid hQ
        have z0 : wr.cell? ⟨wo.heap.size, 0, none⟩ = some (.int .i64 X0) := (hQ.cell (p := ⟨wo.heap.size, 0, none⟩) HWL2.out).trans X0C.out
        have hQB : Below w.heap.size w wr := HPB.out.trans (hQ.mono HPB.out.size)
        have HQB := Lib.hid hQB
        clear hne hQ
        by_cases hki : k < i
        · have hkl : k < l.length := by have := HLI.out; omega
          have y5 := (part_cells (HVC.out wr HQ.out) hkl).1
          have hkm : (k : Int) < (m : Int) := by omega
          have HON2 := Lib.hid (HON.out k hkl hki)
          have HNE2 := Lib.hid fun (h : (l[k]'hkl).1 ≠ X0) => (show ∀ k2 (h : k2 < l.length), k2 < k + 1 → (l[k2]'h).1 ≠ X0 from fun k2 h2 h3 => by
            by_cases e : k2 = k
            · subst e; exact h
            · exact HNE.out k2 h2 (by omega))
          generalize (l[k]'hkl).1 = V at *
          by_cases hV : V = X0
          · have hV' : (V == X0) = true := by rw [beq_iff_eq]; exact hV
            have HF := Lib.hid (HON2.out hV)
            clear hV HON2 HNE2 HNX HON
            go_wp2
            go_quiet (fail)
            go_wp2
            go_ret
            exact ⟨false, rfl, ⟨fun h => (by cases h), fun h => (HF.out h).elim⟩, HQB.out.trans (below_drewN _ _ _)⟩
          · have hV' : (V == X0) = false := by rw [beq_eq_false_iff_ne]; exact hV
            have HN3 := Lib.hid (HNE2.out hV)
            clear hV HON2 HNE2
            go_wp2
            go_quiet (fail)
            go_wp2
            go_roundw
            case rel => exact ⟨k + 1, by go_num, by omega, HN3.out, HQ.out.trans (below_drewN _ _ _)⟩
            case measure => simp [intOf]; omega
        · have hk2 : k = i := by omega
          have HN4 := Lib.hid (HNX.out HPO.out (fun k2 h2 h3 => HNE.out k2 h2 (by omega)))
          have hki2 : ¬ (k : Int) < (i : Int) := by omega
          clear hki hk2 HNX HON
          go_wp2
          go_roundw
          case rel => exact ⟨i + 1, by go_num, by omega, HN4.out, HQB.out⟩
          case measure => simp [intOf]; omega
    · have hR : RightF z h u l := by
        obtain ⟨q1, q2, q3, q4⟩ := HC.out
        have hok := HOK.out
        have hmm := HM.out
        exact ⟨q1, q2, q3, by omega, fun j hj => (hok j hj (by omega)).1, fun j hj k hk => (hok j hj (by omega)).2 k hk⟩
      have HR := Lib.hid hR
      clear hR
      go_wp2
      go_ret
      exact ⟨true, rfl, ⟨fun _ => HR.out, fun _ => rfl⟩, HB.out⟩
/-! What is written of a right frame is read as it is; what is read is right. -/
theorem rnum_at {s : ByteArray} {A B C : List UInt8} {m : Nat} (hs : s.data.toList = A ++ (B ++ C)) (hB : B.length = m) : rnum s m (A.length, 0) = (num B 0, (A.length + m, 0)) := by
  have hsz : s.size = A.length + m + C.length := by
    have : s.data.toList.length = s.size := by simp
    rw [← this, hs, List.length_append, List.length_append]
    omega
  unfold rnum
  rw [if_pos rfl, if_neg (by show ¬ s.size - A.length < m; omega)]
  show (num (s.extract A.length (A.length + m)).data.toList 0, (A.length + m, 0)) = _
  rw [ext_list', hs, List.drop_left, ← hB, List.take_left]
theorem pb_be {n m : Int} (h1 : 1 ≤ m) (h4 : m ≤ 4) (h0 : 0 ≤ n) (hn : n < ((256 ^ m.toNat : Nat) : Int)) : pbytes n m = be n.toNat m.toNat := by
  unfold pbytes putted
  rw [if_neg (by omega), if_neg (by omega)]
theorem rnum_pb {s : ByteArray} {A C : List UInt8} {n mi : Int} {m : Nat} (h1 : 1 ≤ m) (h4 : m ≤ 4) (h0 : 0 ≤ n) (hn : n < ((256 ^ m : Nat) : Int)) (hs : s.data.toList = A ++ (pbytes n mi ++ C)) (hm : mi = (m : Int)) : rnum s m (A.length, 0) = (n.toNat, (A.length + m, 0)) ∧ (pbytes n mi).length = m := by
  subst hm
  have e := pb_be (n := n) (m := m) (by omega) (by omega) h0 (by rw [Int.toNat_natCast]; exact hn)
  rw [Int.toNat_natCast] at e
  have hl : (pbytes n m).length = m := by rw [e, be_length]
  refine ⟨?_, hl⟩
  rw [rnum_at hs hl, e, num_be, Nat.mod_eq_of_lt (by omega)]
theorem rneed_t {ok : Bool} {x : Nat} {p : Nat × Nat} (h : ok = true) : rneed ok x p = p := by rw [h]; exact rneed_yes
/-- A component. -/
def wpart (p : PT) : List UInt8 := pbytes p.1 1 ++ pbytes (pairI p.2.1 p.2.2.1) 1 ++ pbytes p.2.2.2 1
theorem pairI_ok {a b : Int} (ha : 1 ≤ a ∧ a ≤ 4) (hb : 1 ≤ b ∧ b ≤ 4) : pairI a b = 16 * a + b := by
  unfold pairI
  rw [wrap64_small (16 * a) (by omega) (by omega), wrap64_small _ (by omega) (by omega)]
theorem rpart_at {s : ByteArray} {A C : List UInt8} {p : PT} (hp : partOk p) (hs : s.data.toList = A ++ (wpart p ++ C)) : rpart s (A.length, 0) = ((p.1.toNat, p.2.1.toNat, p.2.2.1.toNat, p.2.2.2.toNat), (A.length + 3, 0)) ∧ (wpart p).length = 3 := by
  obtain ⟨a1, a2, a3, a4, a5, a6, a7, a8⟩ := hp
  have ep := pairI_ok ⟨a3, a4⟩ ⟨a5, a6⟩
  obtain ⟨e1, l1⟩ := rnum_pb (m := 1) (mi := 1) (by omega) (by omega) a1 (by omega) (show s.data.toList = A ++ (pbytes p.1 1 ++ (pbytes (pairI p.2.1 p.2.2.1) 1 ++ (pbytes p.2.2.2 1 ++ C))) by rw [hs]; simp [wpart, List.append_assoc]) rfl
  obtain ⟨e2, l2⟩ := rnum_pb (m := 1) (mi := 1) (n := pairI p.2.1 p.2.2.1) (A := A ++ pbytes p.1 1) (by omega) (by omega) (by omega) (by omega) (show s.data.toList = (A ++ pbytes p.1 1) ++ (pbytes (pairI p.2.1 p.2.2.1) 1 ++ (pbytes p.2.2.2 1 ++ C)) by rw [hs]; simp [wpart, List.append_assoc]) rfl
  obtain ⟨e3, l3⟩ := rnum_pb (m := 1) (mi := 1) (n := p.2.2.2) (A := A ++ pbytes p.1 1 ++ pbytes (pairI p.2.1 p.2.2.1) 1) (by omega) (by omega) a7 (by omega) (show s.data.toList = (A ++ pbytes p.1 1 ++ pbytes (pairI p.2.1 p.2.2.1) 1) ++ (pbytes p.2.2.2 1 ++ C) by rw [hs]; simp [wpart, List.append_assoc]) rfl
  rw [List.length_append, l1] at e2
  rw [List.length_append, List.length_append, l1, l2] at e3
  have ed : (pairI p.2.1 p.2.2.1).toNat / 16 = p.2.1.toNat ∧ (pairI p.2.1 p.2.2.1).toNat % 16 = p.2.2.1.toNat := by rw [ep]; omega
  refine ⟨?_, by unfold wpart; rw [List.length_append, List.length_append, l1, l2, l3]⟩
  unfold rpart rpair
  simp only []
  rw [e1]
  simp only []
  rw [e2]
  simp only []
  rw [ed.1, ed.2, rneed_t (by simp; omega), e3]
  simp only []
  rw [rneed_t (by simp; omega)]
theorem ptI_of {p : PT} (hp : partOk p) : ptI (p.1.toNat, p.2.1.toNat, p.2.2.1.toNat, p.2.2.2.toNat) = p := by
  obtain ⟨a1, a2, a3, a4, a5, a6, a7, a8⟩ := hp
  obtain ⟨x, y, z, t⟩ := p
  unfold ptI
  simp only [Prod.mk.injEq] at *
  omega
theorem rps_at {s : ByteArray} {A C : List UInt8} {l : List PT} (hp : ∀ i (hi : i < l.length), partOk l[i]) (ho : ∀ i (hi : i < l.length) k (hk : k < i), l[k].1 ≠ l[i].1) (hs : s.data.toList = A ++ (wparts l ++ C)) :
    ∀ k, k ≤ l.length → rps s (A.length, 0) k = (l.take k, (A.length + 3 * k, 0)) ∧ (wparts (l.take k)).length = 3 * k
  | 0, _ => ⟨by simp [rps], by simp [wparts]⟩
  | k + 1, hk => by
    obtain ⟨ih, il⟩ := rps_at hp ho hs k (by omega)
    have hkl : k < l.length := by omega
    have e : wparts l = wparts (l.take k) ++ (wpart l[k] ++ wparts (l.drop (k + 1))) := by
      have h1 : l = l.take k ++ (l[k] :: l.drop (k + 1)) := by rw [← List.drop_eq_getElem_cons hkl, List.take_append_drop]
      have h2 : wparts l = wparts (l.take k ++ (l[k] :: l.drop (k + 1))) := congrArg wparts h1
      rw [h2]
      unfold wparts
      rw [List.flatMap_append, List.flatMap_cons]
      rfl
    obtain ⟨e2, l2⟩ := rpart_at (A := A ++ wparts (l.take k)) (C := wparts (l.drop (k + 1)) ++ C) (hp k hkl) (show s.data.toList = (A ++ wparts (l.take k)) ++ (wpart l[k] ++ (wparts (l.drop (k + 1)) ++ C)) by rw [hs, e]; simp [List.append_assoc])
    rw [List.length_append, il] at e2
    have hah : aheadP (l.take k) ((l[k].1.toNat : Nat) : Int) = false := by
      unfold aheadP
      rw [List.any_eq_false]
      intro q hq
      obtain ⟨j, hj, rfl⟩ := List.mem_iff_getElem.1 hq
      rw [List.length_take] at hj
      rw [List.getElem_take]
      have h1 := ho k hkl j (by omega)
      have h2 := (hp k hkl).1
      simp only [beq_iff_eq]
      intro h3
      apply h1
      rw [h3]
      omega
    refine ⟨?_, by rw [List.take_succ_eq_append_getElem hkl]; unfold wparts at il ⊢; rw [List.flatMap_append, List.length_append, il]; have := l2; unfold wpart at this; simp at this ⊢; omega⟩
    show ((rps s (A.length, 0) k).1 ++ [ptI (rpart s (rps s (A.length, 0) k).2).1], rneed (!aheadP (rps s (A.length, 0) k).1 ((rpart s (rps s (A.length, 0) k).2).1.1 : Nat)) 7 (rpart s (rps s (A.length, 0) k).2).2) = _
    rw [ih]
    simp only []
    rw [e2]
    simp only []
    rw [hah, ptI_of (hp k hkl), rneed_t (ok := !false) rfl, ← List.take_succ_eq_append_getElem hkl, show A.length + 3 * k + 3 = A.length + 3 * (k + 1) by omega]
/-- What is written of a right frame is read as it is. -/
theorem rframe_of {z h u : Int} {l : List PT} (hr : RightF z h u l) : rframe ⟨(wframe h u l).toArray⟩ (0, 0) = ((h.toNat, u.toNat, l), ((wframe h u l).length, 0)) := by
  obtain ⟨h1, h2⟩ := hr.high
  obtain ⟨u1, u2⟩ := hr.wide
  obtain ⟨l1, l2⟩ := hr.few
  generalize hs : (⟨(wframe h u l).toArray⟩ : ByteArray) = s
  have hS : s.data.toList = pbytes 8 1 ++ (pbytes h 2 ++ (pbytes u 2 ++ (pbytes l.length 1 ++ wparts l))) := by rw [← hs]; simp [wframe, List.append_assoc]
  obtain ⟨e1, n1⟩ := rnum_pb (s := s) (m := 1) (mi := 1) (n := 8) (A := []) (by omega) (by omega) (by omega) (by omega) (by first | (rw [hS]; done) | (rw [hS]; rfl)) rfl
  obtain ⟨e2, n2⟩ := rnum_pb (s := s) (m := 2) (mi := 2) (n := h) (A := pbytes 8 1) (by omega) (by omega) (by omega) (by omega) (by first | (rw [hS]; done) | (rw [hS]; rfl)) rfl
  obtain ⟨e3, n3⟩ := rnum_pb (s := s) (m := 2) (mi := 2) (n := u) (A := pbytes 8 1 ++ pbytes h 2) (C := pbytes l.length 1 ++ wparts l) (by omega) (by omega) (by omega) (by omega) (by rw [hS]; simp [List.append_assoc]) rfl
  obtain ⟨e4, n4⟩ := rnum_pb (s := s) (m := 1) (mi := 1) (n := (l.length : Int)) (A := pbytes 8 1 ++ pbytes h 2 ++ pbytes u 2) (C := wparts l) (by omega) (by omega) (by omega) (by omega) (by rw [hS]; simp [List.append_assoc]) rfl
  have hps := (rps_at (s := s) (A := pbytes 8 1 ++ pbytes h 2 ++ pbytes u 2 ++ pbytes l.length 1) (C := []) hr.parts hr.once (by rw [hS]; simp [List.append_assoc]) l.length (Nat.le_refl _))
  simp only [List.length_append, List.length_nil, n1, n2, n3, n4] at e1 e2 e3 e4 hps
  have e1' : rnum s 1 (0, 0) = (8, (1, 0)) := e1
  have hh : rhead s (0, 0) = ((h.toNat, u.toNat, l.length), (6, 0)) := by
    unfold rhead
    simp only []
    rw [e1', rneed_t (by rfl), e2]
    simp only []
    rw [e3]
    simp only []
    rw [rneed_t (show (decide (h.toNat ≠ 0) && decide (u.toNat ≠ 0)) = true by rw [Bool.and_eq_true, decide_eq_true_eq, decide_eq_true_eq]; omega), rneed_t (show (decide (h.toNat ≤ 16384) && decide (u.toNat ≤ 16384)) = true by rw [Bool.and_eq_true, decide_eq_true_eq, decide_eq_true_eq]; omega), e4]
    simp only [Int.toNat_natCast]
    rw [rneed_t (show decide (l.length ≠ 0) = true by rw [decide_eq_true_eq]; omega), rneed_t (show decide (l.length ≤ 4) = true by rw [decide_eq_true_eq]; omega)]
  rw [rframe_def, hh]
  simp only []
  rw [hps.1, List.take_length]
  have hlen : (wframe h u l).length = 6 + 3 * l.length := by
    unfold wframe
    have := hps.2
    rw [List.take_length] at this
    simp only [List.length_append, n1, n2, n3, n4, this]
  rw [hlen]
/-! A frame's beginning that is read is right. -/
theorem rneed_out {ok : Bool} {x : Nat} {p : Nat × Nat} (hx : x ≠ 0) (h : (rneed ok x p).2 = 0) : rneed ok x p = p ∧ ok = true := by
  have h0 := rneed_ok h
  unfold rneed at h ⊢
  by_cases h1 : p.2 = 0 ∧ ok = false
  · rw [if_pos h1] at h; exact absurd h hx
  · rw [if_neg h1]
    refine ⟨rfl, ?_⟩
    cases ok
    · exact absurd ⟨h0, rfl⟩ h1
    · rfl
theorem rpart_out {s : ByteArray} {p : Nat × Nat} (h : (rpart s p).2.2 = 0) : partOk (ptI (rpart s p).1) ∧ p.2 = 0 := by
  have hid := rnum_one s p
  unfold rpart ptI at *
  simp only [] at h ⊢
  obtain ⟨e1, c1⟩ := rneed_out (by decide) h
  rw [e1] at h
  have h2 := rnum_ok h
  obtain ⟨e2, c2⟩ := rneed_out (by decide) h2
  rw [e2] at h2 c1 ⊢
  simp only [Bool.and_eq_true, decide_eq_true_eq] at c1 c2
  have h3 := rnum_ok (show (rnum s 1 (rnum s 1 p).2).2.2 = 0 from h2)
  refine ⟨?_, rnum_ok h3⟩
  unfold partOk
  simp only []
  omega
/-- Components that are right, of other ids each. -/
def PDi (l : List PT) : Prop := (∀ i (hi : i < l.length), partOk l[i]) ∧ ∀ i (hi : i < l.length) j (hj : j < i), l[j].1 ≠ l[i].1
theorem PDi.snoc {l : List PT} {x : PT} (h : PDi l) (hp : partOk x) (ha : aheadP l x.1 = false) : PDi (l ++ [x]) := by
  refine ⟨fun i hi => ?_, fun i hi j hj => ?_⟩
  · rw [List.getElem_append]
    split
    · exact h.1 _ _
    · simpa using hp
  · have hi2 : i < l.length + 1 := by simpa using hi
    have hjl : j < l.length := by omega
    rw [List.getElem_append_left hjl]
    by_cases hil : i < l.length
    · rw [List.getElem_append_left hil]
      exact h.2 i hil j hj
    · rw [List.getElem_append_right (by omega)]
      simp only [show i - l.length = 0 by omega, List.getElem_cons_zero]
      intro he
      unfold aheadP at ha
      rw [List.any_eq_false] at ha
      exact ha _ (List.getElem_mem hjl) (by simpa using he)
theorem rps_out {s : ByteArray} {p : Nat × Nat} : ∀ k, (rps s p k).2.2 = 0 → p.2 = 0 ∧ PDi (rps s p k).1
  | 0, h => ⟨h, fun i hi => by simp [rps] at hi, fun i hi => by simp [rps] at hi⟩
  | k + 1, h => by
    obtain ⟨e1, c1⟩ := rneed_out (by decide) (show (rneed (!aheadP (rps s p k).1 ((rpart s (rps s p k).2).1.1 : Nat)) 7 (rpart s (rps s p k).2).2).2 = 0 from h)
    have h1 : (rpart s (rps s p k).2).2.2 = 0 := rneed_ok (show (rneed (!aheadP (rps s p k).1 ((rpart s (rps s p k).2).1.1 : Nat)) 7 (rpart s (rps s p k).2).2).2 = 0 from h)
    obtain ⟨hp, h0⟩ := rpart_out h1
    obtain ⟨g1, g2⟩ := rps_out k h0
    have hk : aheadP (rps s p k).1 ((rpart s (rps s p k).2).1.1 : Nat) = false := by simpa using c1
    exact ⟨g1, PDi.snoc (x := ptI (rpart s (rps s p k).2).1) g2 hp hk⟩
theorem rframe_out {z : Int} (hz : 192 ≤ z ∧ z ≤ 194) {s : ByteArray} (h : (rframe s (0, 0)).2.2 = 0) : RightF z ((rframe s (0, 0)).1.1 : Nat) ((rframe s (0, 0)).1.2.1 : Nat) (rframe s (0, 0)).1.2.2 := by
  rw [rframe_def] at h ⊢
  simp only [] at h ⊢
  obtain ⟨h1, g2, g3⟩ := rps_out _ h
  have hlen := rps_length s (rhead s (0, 0)).2 (rhead s (0, 0)).1.2.2
  have hc : (1 ≤ (rhead s (0, 0)).1.1 ∧ (rhead s (0, 0)).1.1 ≤ 16384) ∧ (1 ≤ (rhead s (0, 0)).1.2.1 ∧ (rhead s (0, 0)).1.2.1 ≤ 16384) ∧ (1 ≤ (rhead s (0, 0)).1.2.2 ∧ (rhead s (0, 0)).1.2.2 ≤ 4) := by
    clear g2 g3 hlen h
    unfold rhead at h1 ⊢
    simp only [] at h1 ⊢
    obtain ⟨e1, c1⟩ := rneed_out (by decide) h1
    rw [e1] at h1
    obtain ⟨e2, c2⟩ := rneed_out (by decide) h1
    rw [e2] at h1
    have h2 := rnum_ok h1
    obtain ⟨e3, c3⟩ := rneed_out (by decide) h2
    rw [e3] at h2
    obtain ⟨e4, c4⟩ := rneed_out (by decide) h2
    simp only [Bool.and_eq_true, decide_eq_true_eq] at c1 c2 c3 c4
    refine ⟨⟨by omega, c3.1⟩, ⟨by omega, c3.2⟩, ⟨by omega, c1⟩⟩
  exact ⟨hz, by omega, by omega, by rw [hlen]; omega, g2, g3⟩
/-! SegFrames: the walk of the law. -/
/-- A slice of structs, of which nothing is said if it is empty. -/
def RowE {α : Type} (n : Nat) (cs : α → Array Value) (v : Value) (l : List α) (w : World) : Prop := ∃ p c, v = .slice p l.length c ∧ (l = [] ∨ RowV n cs v l w)
theorem RowE.on {α : Type} {n : Nat} {cs : α → Array Value} {v : Value} {l : List α} {w w' : World} (hn : ∀ a, (cs a).size = n) (h : RowE n cs v l w) (hb : Below w.heap.size w w') : RowE n cs v l w' := by
  obtain ⟨p, c, h1, h2⟩ := h
  exact ⟨p, c, h1, h2.imp id fun h => h.on hn hb⟩
theorem RowE.shape {α : Type} {n : Nat} {cs : α → Array Value} {v : Value} {l : List α} {w : World} (h : RowE n cs v l w) : ∃ p m c, v = .slice p m c ∧ Hid (m = l.length) := by
  obtain ⟨p, c, h1, h2⟩ := h
  exact ⟨p, l.length, c, h1, rfl⟩
theorem size44F (z h u : Int) (g : Value) : (Tryd.prog.info? 44).map (·.size) = some (#[.int .i64 z, .int .i64 h, .int .i64 u, g] : Array Value).size := by kernel_rfl
theorem four_one (z h u : Int) (p : Option Addr) (m c : Nat) : (#[.int .i64 z, .int .i64 h, .int .i64 u, .slice p m c] : Array Value).all (·.oneCell') = true := by
  simp
  exact ⟨rfl, rfl, rfl, rfl⟩
set_option maxRecDepth 100000 in
set_option maxHeartbeats 4000000 in
theorem frames_long (z h u : Int) (v : Value) (l : List PT) (hl : 20 < l.length) (w : World) (hv : RowE 4 cellsP v l w) :
    Calls Tryd.prog 8 #[.int .i64 z, .int .i64 h, .int .i64 u, v] w fun e w' => e = .returned (.bool true) ∧ Below w.heap.size w w' := by
  obtain ⟨p, m, c, rfl, hm⟩ := hv.shape
  have hm2 : (20 : Int) < (m : Int) := by rw [hm.out]; omega
  have HA := Lib.hid awake_any
  clear hv hm hl
  go_enter Tryd.func8, Tryd.ntmps8
  go_wp2_with (first
    | (go_at_call 10; refine (HA.out w).mono ?_; rintro e w1 ⟨rfl, hb⟩; have HB := Lib.hid hb; clear hb)
    | (go_at_call 10; refine (HA.out w1).mono ?_; rintro e w2 ⟨rfl, hb⟩; have HB2 := Lib.hid (HB.out.trans (hb.mono HB.out.size)); clear hb HA))
  go_ret
  exact ⟨rfl, HB2.out⟩
set_option maxRecDepth 100000 in
set_option maxHeartbeats 8000000 in
theorem frames_no (z h u : Int) (v : Value) (l : List PT) (hl : l.length ≤ 20) (w : World) (hv : RowE 4 cellsP v l w)
    (hB : ∀ g x, Below w.heap.size w x → RowV 4 cellsP g l x → Calls Tryd.prog 11 #[.iface 44 (.agg #[.int .i64 z, .int .i64 h, .int .i64 u, g])] x fun e w' => e = .returned (.tuple #[.string ⟨#[]⟩, .int .i64 1]) ∧ Below x.heap.size x w')
    (hR : ∀ x, Below w.heap.size w x → Calls Tryd.prog 19 #[.int .i64 z, .int .i64 h, .int .i64 u, v] x fun e w' => e = .returned (.bool false) ∧ Below x.heap.size x w') :
    Calls Tryd.prog 8 #[.int .i64 z, .int .i64 h, .int .i64 u, v] w fun e w' => e = .returned (.bool true) ∧ Below w.heap.size w w' := by
  have HV := Lib.hid hv
  obtain ⟨p, m, c, rfl, hm⟩ := hv.shape
  have HM := Lib.hid hm.out
  have hm2 : (m : Int) ≤ 20 := by rw [hm.out]; omega
  have HA := Lib.hid awake_any
  have HBY := Lib.hid hB
  have HRI := Lib.hid hR
  clear hv hm hl hB hR
  go_enter Tryd.func8, Tryd.ntmps8
  go_wp2_with (first
    | (go_at_call 10; refine (HA.out w).mono ?_; rintro e w1 ⟨rfl, hb⟩; have HB := Lib.hid hb; clear hb HA)
    | (refine wpList_freshE rfl 44 _ _ rfl w1 _ rfl #[.int .i64 z, .int .i64 h, .int .i64 u, .slice none 0 0] rfl rfl (size44F _ _ _ _) rfl (four_one _ _ _ _ _ _) ?_; intro y hy hby; have HF := Lib.hid hy; have HB1 := Lib.hid (HB.out.trans (hby.mono HB.out.size)); have HW := Lib.hid HB.out.size; clear hy hby HB))
  go_loopw [10] (fun i wr => ∃ j : Nat, ∃ g, i = .int .i64 j ∧ j ≤ m ∧ wr.heap[w1.heap.size]? = some (.cells #[.int .i64 z, .int .i64 h, .int .i64 u, g] 44 (0, 0)) ∧ OwnR 80 4 cellsP w.heap.size g (l.take j) wr ∧ Below w.heap.size w wr) (fun i _ => m - (intOf i).toNat)
  case atStart => exact ⟨0, _, rfl, Nat.zero_le _, HF.out, OwnR.nil, HB1.out⟩
  case round =>
    obtain ⟨j, g, rfl, hj, hF, hO, hb⟩ := hrel
    have HF2 := Lib.hid hF
    have HO2 := Lib.hid hO
    have HB2 := Lib.hid hb
    obtain ⟨gp, gm, gc, rfl, hgm⟩ := hO.shape
    clear hF hO hb hgm
    by_cases hlt : j < m
    · have hjl : j < l.length := by rw [← HM.out]; exact hlt
      have hvr : RowV 4 cellsP (.slice p m c) l wr := by
        obtain ⟨_, _, _, h2⟩ := HV.out.on cellsP_size HB2.out
        rcases h2 with rfl | h2
        · exact absurd hjl (by simp)
        · exact h2
      obtain ⟨b, o, d, hvv, _, hc⟩ := hvr.lies (by omega)
      simp only [Value.slice.injEq] at hvv
      obtain ⟨rfl, hy1, rfl⟩ := hvv
      obtain ⟨q0, q1, q2, q3⟩ := part_cells hc hjl
      have HS : Hid (l.take (j + 1) = l.take j ++ [l[j]]) := by unfold Hid; rw [List.take_succ_eq_append_getElem hjl]
      have HLN : Hid ((l.take j).length ≤ 1000000) := by unfold Hid; rw [List.length_take]; omega
      generalize l[j] = x at *
      generalize l.take j = LL at *
      clear hvr hc hy1 hjl
      have z0 : ∀ x : G.In (Below wr.heap.size wr), x.W.cell? ⟨w1.heap.size, 3, none⟩ = some (.slice gp gm gc) := fun x => cell_below (Lib.cell_of_heap HF2.out 3) x.h
      have y0 := fun x : G.In (Below wr.heap.size wr) => cell_below q0 x.h
      have y1 := fun x : G.In (Below wr.heap.size wr) => cell_below q1 x.h
      have y2 := fun x : G.In (Below wr.heap.size wr) => cell_below q2 x.h
      have y3 := fun x : G.In (Below wr.heap.size wr) => cell_below q3 x.h
      have hnb : Nonempty (G.In (Below wr.heap.size wr)) := ⟨⟨wr, Below.refl _ _⟩⟩
      have hjm : (j : Int) < (m : Int) := by omega
      clear q0 q1 q2 q3
      go_wp2
      refine G.wp_region_mix (Below wr.heap.size wr) [0, 0, 0, 0, 0, 0, 0, 0, 0, 0, 0, 0, 0, 0, 0, 0, 0, 0, 0, 0, 0, 0, 0, 2, 3, 4, 4] 4 (by kernel_rfl) (by kernel_rfl) (Below.refl _ _).drew ?_
      intro KK hKK
      simp only [G.qpick, Nat.reduceEqDiff, ↓reduceIte]
      repeat (first
        | (refine G.wpSt_step rfl (by rfl) ?_; intro K hK; go_big_quiet_op; go_big_quiet_on)
        | refine G.wpSt_nil ?_)
      refine hKK _ ?_
      refine G.mix_keeps (k := 23) (fuel := 3) ?_ ?_ ?_
      · kernel_rfl
      · rfl
      refine G.mOp_list rfl ?_
      refine wpList_bsR _ _ info80 (by decide) (by decide) Tryd.underlying42 rfl _ rfl (cellsP x) rfl rfl ?_
      refine wpList_nil ⟨rfl, ⟨⟨_, ((Below.refl _ _).drew.alloc (Nat.le_refl _) _)⟩, rfl⟩, ?_⟩
      refine G.mix_mute (k := 24) (fuel := 2) ?_ ?_ ?_
      · kernel_rfl
      · rfl
      refine G.mOp_list rfl ?_
      refine wpList_appR cellsP_size cellsP_one _ _ info80 (cellsP_size _) (by decide) (by decide) Tryd.underlying42 rfl _ _ rfl w.heap.size (.slice gp gm gc) LL x rfl wr.drew.heap.size rfl rfl HO2.out HLN.out HB2.out.size ?_
      intro v4 w4 ho hb hk
      refine wpList_nil ⟨rfl, ?_⟩
      refine G.mix_tail 25 (by kernel_rfl) (by kernel_rfl) ?_
      simp only [List.drop, List.getElem_cons_succ, List.getElem_cons_zero, List.getElem_toArray]
      have HO4 := Lib.hid ho
      have hFx : w4.heap[w1.heap.size]? = some (.cells #[.int .i64 z, .int .i64 h, .int .i64 u, .slice gp gm gc] 44 (0, 0)) := hk _ _ HF2.out (by simp) (fun _ _ e => by simp only [Obj.cells.injEq] at e; exact absurd e.2.1 (by decide))
      have HFX := Lib.hid hFx
      have HB4 := Lib.hid (HB2.out.drew.trans hb)
      have hf9 : w4.frozen? ⟨w1.heap.size, 3, none⟩ = false := Lib.frozen_of_heap hFx 3
      have hc9 : w4.cell? ⟨w1.heap.size, 3, none⟩ = some (.slice gp gm gc) := Lib.cell_of_heap hFx 3
      obtain ⟨p4, m4, c4, rfl, _⟩ := ho.shape
      clear ho hb hk hFx z0 y0 y1 y2 y3 HF2 HO2 HB2 hKK KK
      go_wp2
      refine ⟨⟨j + 1, _, by go_num, by omega, ?_, by rw [HS.out]; exact HO4.out.setCell HFX.out (by decide), HB4.out.setCell (p := ⟨_, _, none⟩) HW.out _⟩, by simp [intOf]; omega⟩
      show (w4.setCell _ _).heap[_]? = _
      rw [heap_setCell_same _ _ _ _ _ _ HFX.out]
      rfl
    · obtain rfl : j = m := by omega
      have hO2 := HO2.out
      rw [show l.take j = l by rw [HM.out, List.take_length]] at hO2
      have HO3 := Lib.hid (hO2.view cellsP_size)
      clear hO2
      go_wp2_with (first
        | (refine wpList_load_row rfl 44 _ rfl w1.heap.size rfl 44 #[.int .i64 z, .int .i64 h, .int .i64 u, .slice gp gm gc] (0, 0) _ HF2.out Tryd.underlying44 rfl (size44F _ _ _ _) ?_)
        | (go_at_call 11; refine (HBY.out _ _ HB2.out HO3.out).mono ?_; rintro e w5 ⟨rfl, hb⟩; have HB5 := Lib.hid (HB2.out.trans (hb.mono HB2.out.size)); clear hb HBY HB2)
        | (go_at_call 19; refine (HRI.out _ HB5.out).mono ?_; rintro e w6 ⟨rfl, hb⟩; have HB6 := Lib.hid (HB5.out.trans (hb.mono HB5.out.size)); clear hb HRI HB5))
      go_ret
      exact ⟨rfl, HB6.out⟩
/-! SegFrames: the walk of the law where the frame is written. -/
set_option maxRecDepth 100000 in
set_option maxHeartbeats 8000000 in
theorem frames_yes (z h u : Int) (v : Value) (l : List PT) (hl : l.length ≤ 20) (hok : okPS (PS.frame z h u l)) (T S : ByteArray) (hT4 : T.size = 4 + S.size) (hS : S.size ≤ 65533) (hTS : T.extract 4 (4 + S.size) = S) (w : World) (hv : RowE 4 cellsP v l w)
    (hB : ∀ g x, Below w.heap.size w x → RowV 4 cellsP g l x → Calls Tryd.prog 11 #[.iface 44 (.agg #[.int .i64 z, .int .i64 h, .int .i64 u, g])] x fun e w' => e = .returned (.tuple #[.string T, .int .i64 0]) ∧ Below x.heap.size x w')
    (hD : ∀ x, Calls Tryd.prog 12 #[.int .i64 z, .string S] x fun e w' => (∃ cs, e = .returned (.tuple #[.agg cs, .int .i64 0]) ∧ DV x.heap.size z (PS.frame z h u l) cs w') ∧ Below x.heap.size x w')
    (hR : ∀ x, Below w.heap.size w x → Calls Tryd.prog 19 #[.int .i64 z, .int .i64 h, .int .i64 u, v] x fun e w' => e = .returned (.bool true) ∧ Below x.heap.size x w') :
    Calls Tryd.prog 8 #[.int .i64 z, .int .i64 h, .int .i64 u, v] w fun e w' => e = .returned (.bool true) ∧ Below w.heap.size w w' := by
  have HV := Lib.hid hv
  obtain ⟨p, m, c, rfl, hm⟩ := hv.shape
  have HM := Lib.hid hm.out
  have hm2 : (m : Int) ≤ 20 := by rw [hm.out]; omega
  have HA := Lib.hid awake_any
  have HBY := Lib.hid hB
  have HRI := Lib.hid hR
  have HDP : Hid (∀ x, Calls Tryd.prog 12 #[.int .i64 z, .string (T.extract 4 (4 + S.size))] x fun e w' => (∃ cs, e = .returned (.tuple #[.agg cs, .int .i64 0]) ∧ DV x.heap.size z (PS.frame z h u l) cs w') ∧ Below x.heap.size x w') := by
    intro x
    rw [hTS]
    exact hD x
  have HOK := Lib.hid hok
  clear hv hm hl hB hR hD hok hTS
  go_enter Tryd.func8, Tryd.ntmps8
  go_wp2_with (first
    | (go_at_call 10; refine (HA.out w).mono ?_; rintro e w1 ⟨rfl, hb⟩; have HB := Lib.hid hb; clear hb HA)
    | (refine wpList_freshE rfl 44 _ _ rfl w1 _ rfl #[.int .i64 z, .int .i64 h, .int .i64 u, .slice none 0 0] rfl rfl (size44F _ _ _ _) rfl (four_one _ _ _ _ _ _) ?_; intro y hy hby; have HF := Lib.hid hy; have HB1 := Lib.hid (HB.out.trans (hby.mono HB.out.size)); have HW := Lib.hid HB.out.size; clear hy hby HB))
  go_loopw [10] (fun i wr => ∃ j : Nat, ∃ g, i = .int .i64 j ∧ j ≤ m ∧ wr.heap[w1.heap.size]? = some (.cells #[.int .i64 z, .int .i64 h, .int .i64 u, g] 44 (0, 0)) ∧ OwnR 80 4 cellsP w.heap.size g (l.take j) wr ∧ Below w.heap.size w wr) (fun i _ => m - (intOf i).toNat)
  case atStart => exact ⟨0, _, rfl, Nat.zero_le _, HF.out, OwnR.nil, HB1.out⟩
  case round =>
    obtain ⟨j, g, rfl, hj, hF, hO, hb⟩ := hrel
    have HF2 := Lib.hid hF
    have HO2 := Lib.hid hO
    have HB2 := Lib.hid hb
    obtain ⟨gp, gm, gc, rfl, hgm⟩ := hO.shape
    clear hF hO hb hgm
    by_cases hlt : j < m
    · have hjl : j < l.length := by rw [← HM.out]; exact hlt
      have hvr : RowV 4 cellsP (.slice p m c) l wr := by
        obtain ⟨_, _, _, h2⟩ := HV.out.on cellsP_size HB2.out
        rcases h2 with rfl | h2
        · exact absurd hjl (by simp)
        · exact h2
      obtain ⟨b, o, d, hvv, _, hc⟩ := hvr.lies (by omega)
      simp only [Value.slice.injEq] at hvv
      obtain ⟨rfl, hy1, rfl⟩ := hvv
      obtain ⟨q0, q1, q2, q3⟩ := part_cells hc hjl
      have HS : Hid (l.take (j + 1) = l.take j ++ [l[j]]) := by unfold Hid; rw [List.take_succ_eq_append_getElem hjl]
      have HLN : Hid ((l.take j).length ≤ 1000000) := by unfold Hid; rw [List.length_take]; omega
      generalize l[j] = x at *
      generalize l.take j = LL at *
      clear hvr hc hy1 hjl
      have z0 : ∀ x : G.In (Below wr.heap.size wr), x.W.cell? ⟨w1.heap.size, 3, none⟩ = some (.slice gp gm gc) := fun x => cell_below (Lib.cell_of_heap HF2.out 3) x.h
      have y0 := fun x : G.In (Below wr.heap.size wr) => cell_below q0 x.h
      have y1 := fun x : G.In (Below wr.heap.size wr) => cell_below q1 x.h
      have y2 := fun x : G.In (Below wr.heap.size wr) => cell_below q2 x.h
      have y3 := fun x : G.In (Below wr.heap.size wr) => cell_below q3 x.h
      have hnb : Nonempty (G.In (Below wr.heap.size wr)) := ⟨⟨wr, Below.refl _ _⟩⟩
      have hjm : (j : Int) < (m : Int) := by omega
      clear q0 q1 q2 q3
      go_wp2
      refine G.wp_region_mix (Below wr.heap.size wr) [0, 0, 0, 0, 0, 0, 0, 0, 0, 0, 0, 0, 0, 0, 0, 0, 0, 0, 0, 0, 0, 0, 0, 2, 3, 4, 4] 4 (by kernel_rfl) (by kernel_rfl) (Below.refl _ _).drew ?_
      intro KK hKK
      simp only [G.qpick, Nat.reduceEqDiff, ↓reduceIte]
      repeat (first
        | (refine G.wpSt_step rfl (by rfl) ?_; intro K hK; go_big_quiet_op; go_big_quiet_on)
        | refine G.wpSt_nil ?_)
      refine hKK _ ?_
      refine G.mix_keeps (k := 23) (fuel := 3) ?_ ?_ ?_
      · kernel_rfl
      · rfl
      refine G.mOp_list rfl ?_
      refine wpList_bsR _ _ info80 (by decide) (by decide) Tryd.underlying42 rfl _ rfl (cellsP x) rfl rfl ?_
      refine wpList_nil ⟨rfl, ⟨⟨_, ((Below.refl _ _).drew.alloc (Nat.le_refl _) _)⟩, rfl⟩, ?_⟩
      refine G.mix_mute (k := 24) (fuel := 2) ?_ ?_ ?_
      · kernel_rfl
      · rfl
      refine G.mOp_list rfl ?_
      refine wpList_appR cellsP_size cellsP_one _ _ info80 (cellsP_size _) (by decide) (by decide) Tryd.underlying42 rfl _ _ rfl w.heap.size (.slice gp gm gc) LL x rfl wr.drew.heap.size rfl rfl HO2.out HLN.out HB2.out.size ?_
      intro v4 w4 ho hb hk
      refine wpList_nil ⟨rfl, ?_⟩
      refine G.mix_tail 25 (by kernel_rfl) (by kernel_rfl) ?_
      simp only [List.drop, List.getElem_cons_succ, List.getElem_cons_zero, List.getElem_toArray]
      have HO4 := Lib.hid ho
      have hFx : w4.heap[w1.heap.size]? = some (.cells #[.int .i64 z, .int .i64 h, .int .i64 u, .slice gp gm gc] 44 (0, 0)) := hk _ _ HF2.out (by simp) (fun _ _ e => by simp only [Obj.cells.injEq] at e; exact absurd e.2.1 (by decide))
      have HFX := Lib.hid hFx
      have HB4 := Lib.hid (HB2.out.drew.trans hb)
      have hf9 : w4.frozen? ⟨w1.heap.size, 3, none⟩ = false := Lib.frozen_of_heap hFx 3
      have hc9 : w4.cell? ⟨w1.heap.size, 3, none⟩ = some (.slice gp gm gc) := Lib.cell_of_heap hFx 3
      obtain ⟨p4, m4, c4, rfl, _⟩ := ho.shape
      clear ho hb hk hFx z0 y0 y1 y2 y3 HF2 HO2 HB2 hKK KK
      go_wp2
      refine ⟨⟨j + 1, _, by go_num, by omega, ?_, by rw [HS.out]; exact HO4.out.setCell HFX.out (by decide), HB4.out.setCell (p := ⟨_, _, none⟩) HW.out _⟩, by simp [intOf]; omega⟩
      show (w4.setCell _ _).heap[_]? = _
      rw [heap_setCell_same _ _ _ _ _ _ HFX.out]
      rfl
    · obtain rfl : j = m := by omega
      have hO2 := HO2.out
      rw [show l.take j = l by rw [HM.out, List.take_length]] at hO2
      have HO3 := Lib.hid (hO2.view cellsP_size)
      have HOl := Lib.hid hO2
      clear hO2
      have ht := hT4
      go_wp2_with (first
        | (refine wpList_load_row rfl 44 _ rfl w1.heap.size rfl 44 #[.int .i64 z, .int .i64 h, .int .i64 u, .slice gp gm gc] (0, 0) _ HF2.out Tryd.underlying44 rfl (size44F _ _ _ _) ?_)
        | (go_at_call 11; refine (HBY.out _ _ HB2.out HO3.out).mono ?_; rintro e w5 ⟨rfl, hb⟩; have HB5 := Lib.hid (HB2.out.trans (hb.mono HB2.out.size)); have HO5 := Lib.hid (HOl.out.on hb); have HF5 := Lib.hid ((hb.block _ (Array.getElem?_eq_some_iff.1 HF2.out).1).trans HF2.out); clear hb HBY HB2 HF2 HO2 HO3 HOl)
        | (go_at_call 12; refine (HDP.out _).mono ?_; rintro e w6 ⟨⟨cs, rfl, hD⟩, hb⟩; have HON := Lib.hid hD.one; have HD6 := Lib.hid hD; have HB6 := Lib.hid (HB5.out.trans (hb.mono HB5.out.size)); have HO6 := Lib.hid (HO5.out.on hb); have HF6 := Lib.hid ((hb.block _ (Array.getElem?_eq_some_iff.1 HF5.out).1).trans HF5.out); clear hD hb HDP HB5 HO5 HF5)
        | (refine wpList_freshE rfl 38 _ _ rfl w6 _ rfl cs rfl rfl (size38 _ HON.out.1) (by rw [HON.out.1]; kernel_rfl) HON.out.2 ?_; intro y7 hy hb; have HY7 := Lib.hid hy; have HD7 := Lib.hid (HD6.out.on hb); have HB7 := Lib.hid (HB6.out.trans (hb.mono HB6.out.size)); have HO7 := Lib.hid (HO6.out.on hb); have HF7 := Lib.hid ((hb.block _ (Array.getElem?_eq_some_iff.1 HF6.out).1).trans HF6.out); clear hy hb HB6 HO6 HF6 HD6)
        | (refine wpList_load_w (by rfl) 44 _ rfl Tryd.underlying44 rfl w1.heap.size 0 rfl #[.int .i64 z, .int .i64 h, .int .i64 u, .slice gp gm gc] (size44F _ _ _ _) (fun k _ => by rw [Nat.zero_add]; exact Lib.cell_of_heap HF7.out k) ?_)
        | (refine wpList_load_w (by rfl) 38 _ rfl Tryd.underlying38 rfl w6.heap.size 0 rfl cs (size38 _ HON.out.1) (fun k _ => by rw [Nat.zero_add]; exact Lib.cell_of_heap HY7.out k) ?_)
        | (go_at_call 13; refine (same_any w.heap.size _ z (PS.frame z h u l) _ cs _ ⟨_, rfl, HO7.out⟩ HD7.out HOK.out).mono ?_; rintro e w8 ⟨rfl, hb⟩; have HB8 := Lib.hid (HB7.out.trans (hb.mono HB7.out.size)); clear hb HB7)
        | (go_at_call 19; refine (HRI.out _ HB8.out).mono ?_; rintro e w9 ⟨rfl, hb⟩; have HB9 := Lib.hid (HB8.out.trans (hb.mono HB8.out.size)); clear hb HRI HB8))
      go_ret
      exact ⟨rfl, HB9.out⟩
/-! SegFrames, for every code, every number and every component. -/
set_option maxHeartbeats 1000000 in
theorem Code44F (z h u : Int) (v : Value) (hv : ∃ p n c, v = .slice p n c) (w : World) : Calls Tryd.prog 102 #[.agg #[.int .i64 z, .int .i64 h, .int .i64 u, v]] w fun e w' => e = .returned (.int .i64 z) ∧ Below w.heap.size w w' := by
  obtain ⟨p, n, c, rfl⟩ := hv
  have HB := Lib.hid (below_new w (.cells #[.int .i64 z, .int .i64 h, .int .i64 u, .slice p n c] 44))
  go_enter Tryd.func102, Tryd.ntmps102
  go_wp2
  go_ret
  exact ⟨rfl, HB.out⟩
set_option maxHeartbeats 4000000 in
set_option maxRecDepth 100000 in
theorem right_none (z h u : Int) (p : Option Addr) (c : Nat) (w : World) : Calls Tryd.prog 19 #[.int .i64 z, .int .i64 h, .int .i64 u, .slice p 0 c] w fun e w' => e = .returned (.bool false) ∧ Below w.heap.size w w' := by
  by_cases c1 : z < 192
  · go_enter Tryd.func19, Tryd.ntmps19
    go_wp2
    go_ret
    exact ⟨rfl, Below.refl _ _⟩
  by_cases c2 : 194 < z
  · go_enter Tryd.func19, Tryd.ntmps19
    go_wp2
    go_ret
    exact ⟨rfl, Below.refl _ _⟩
  by_cases c3 : h < 1
  · go_enter Tryd.func19, Tryd.ntmps19
    go_wp2
    go_ret
    exact ⟨rfl, Below.refl _ _⟩
  by_cases c4 : 16384 < h
  · go_enter Tryd.func19, Tryd.ntmps19
    go_wp2
    go_ret
    exact ⟨rfl, Below.refl _ _⟩
  by_cases c5 : u < 1
  · go_enter Tryd.func19, Tryd.ntmps19
    go_wp2
    go_ret
    exact ⟨rfl, Below.refl _ _⟩
  by_cases c6 : 16384 < u
  · go_enter Tryd.func19, Tryd.ntmps19
    go_wp2
    go_ret
    exact ⟨rfl, Below.refl _ _⟩
  go_enter Tryd.func19, Tryd.ntmps19
  go_wp2
  go_ret
  exact ⟨rfl, Below.refl _ _⟩
theorem right_none_no {z h u : Int} : ¬ RightF z h u [] := fun hr => by have := hr.few.1; simp at this
theorem right_E (z h u : Int) (v : Value) (l : List PT) (hl : l.length ≤ 20) (w : World) (hv : RowE 4 cellsP v l w) :
    Calls Tryd.prog 19 #[.int .i64 z, .int .i64 h, .int .i64 u, v] w fun e w' => ∃ b, e = .returned (.bool b) ∧ (b = true ↔ RightF z h u l) ∧ Below w.heap.size w w' := by
  obtain ⟨p, c, h1, h2⟩ := hv
  rcases h2 with rfl | h2
  · subst h1
    refine (right_none z h u p c w).mono fun e w' ⟨a1, a2⟩ => ⟨false, a1, ⟨fun h => (by cases h), fun h => absurd h right_none_no⟩, a2⟩
  · exact right_any z h u v l (by omega) w h2
theorem cellsP_injective {a b : PT} (h : cellsP a = cellsP b) : a = b := by
  obtain ⟨a1, a2, a3, a4⟩ := a
  obtain ⟨b1, b2, b3, b4⟩ := b
  simp only [cellsP] at h
  simp at h
  simp only [Prod.mk.injEq]
  exact h
theorem map_cellsP_inj : ∀ {l m : List PT}, l.map cellsP = m.map cellsP → l = m
  | [], [], _ => rfl
  | [], _ :: _, h => by simp at h
  | _ :: _, [], h => by simp at h
  | a :: l, b :: m, h => by
    simp only [List.map_cons, List.cons.injEq] at h
    rw [cellsP_injective h.1, map_cellsP_inj h.2]
/-- The written body of a right frame is read without an error. -/
theorem perr_right {z h u : Int} {l : List PT} (hr : RightF z h u l) : perr z ⟨(wframe h u l).toArray⟩ = 0 ∧ (rseg z ⟨(wframe h u l).toArray⟩).1 = PS.frame z h u l ∧ (⟨(wframe h u l).toArray⟩ : ByteArray).size ≤ 65533 := by
  have hf := rframe_of hr
  have hsz : (⟨(wframe h u l).toArray⟩ : ByteArray).size = (wframe h u l).length := by simp [ByteArray.size]
  have hlen : (wframe h u l).length ≤ 65533 := by
    have h1 := wparts_length l
    have h2 := hr.few.2
    have h3 := pbytes_length 8 1
    have h4 := pbytes_length h 2
    have h5 := pbytes_length u 2
    have h6 := pbytes_length (l.length : Int) 1
    unfold wframe
    simp only [List.length_append]
    omega
  have hz := hr.code
  have hr0 : rseg z ⟨(wframe h u l).toArray⟩ = (PS.frame z ((rframe ⟨(wframe h u l).toArray⟩ (0, 0)).1.1 : Nat) ((rframe ⟨(wframe h u l).toArray⟩ (0, 0)).1.2.1 : Nat) (rframe ⟨(wframe h u l).toArray⟩ (0, 0)).1.2.2, (rframe ⟨(wframe h u l).toArray⟩ (0, 0)).2) := segF _ hz.1 hz.2
  rw [hf] at hr0
  simp only [] at hr0
  have e1 : ((h.toNat : Nat) : Int) = h := Int.toNat_of_nonneg (by have := hr.high; omega)
  have e2 : ((u.toNat : Nat) : Int) = u := Int.toNat_of_nonneg (by have := hr.wide; omega)
  rw [e1, e2] at hr0
  refine ⟨?_, by rw [hr0], by rw [hsz]; exact hlen⟩
  rw [perr_of (refu_ok (.inr (.inr (.inr (.inr (.inr (.inl hz))))))) (by rw [hsz]; exact hlen) hr0, hsz]
  simp only [Nat.sub_self]
  rw [rneed_t (by rfl)]
/-- Alike, if the frame is right. -/
theorem alike_right {z h u : Int} {v : Value} {l : List PT} (hl : l.length ≤ 1000000) (B : Nat) (A : Value) (w : World) (he : perr z ⟨(wframe h u l).toArray⟩ = 0) (hA : SegV B (rseg z ⟨(wframe h u l).toArray⟩).1 A w) (hv : RowV 4 cellsP v l w) :
    Calls Tryd.prog 54 #[.iface 44 (.agg #[.int .i64 z, .int .i64 h, .int .i64 u, v]), A] w fun e w' => ∃ b, e = .returned (.bool b) ∧ (b = true ↔ RightF z h u l) ∧ Below w.heap.size w w' := by
  by_cases hr : RightF z h u l
  · obtain ⟨_, h2, _⟩ := perr_right hr
    rw [h2] at hA
    obtain ⟨g, rfl, ho⟩ := hA
    refine (alike_frame z h u z h u v g l l hl w hv (ho.view cellsP_size)).mono ?_
    rintro e w' ⟨b, a1, a2, a3⟩
    exact ⟨b, a1, ⟨fun _ => hr, fun _ => a2.2 ⟨rfl, rfl, rfl, rfl⟩⟩, a3⟩
  · by_cases hz : 192 ≤ z ∧ z ≤ 194
    · have hr0 := segF ⟨(wframe h u l).toArray⟩ hz.1 hz.2
      rw [hr0] at hA
      obtain ⟨g, rfl, ho⟩ := hA
      have hok : (rframe ⟨(wframe h u l).toArray⟩ (0, 0)).2.2 = 0 := by
        have hs := perr_size he
        rw [perr_of (refu_ok (.inr (.inr (.inr (.inr (.inr (.inl hz))))))) hs hr0] at he
        exact rneed_ok he
      have hrf := rframe_out hz hok
      refine (alike_frame z h u z _ _ v g l _ hl w hv (ho.view cellsP_size)).mono ?_
      rintro e w' ⟨b, a1, a2, a3⟩
      refine ⟨b, a1, ⟨fun hb => ?_, fun h => absurd h hr⟩, a3⟩
      obtain ⟨_, q1, q2, q3⟩ := a2.1 hb
      have q4 := map_cellsP_inj q3
      rw [← q1, ← q2, ← q4] at hrf
      exact hrf
    · have hno : ∃ t x, A = .iface t x ∧ t ≠ 44 := by
        unfold rseg at hA
        split at hA
        · obtain ⟨g, rfl, _⟩ := hA; exact ⟨_, _, rfl, by decide⟩
        split at hA
        · obtain ⟨g, rfl, _⟩ := hA; exact ⟨_, _, rfl, by decide⟩
        split at hA
        · obtain ⟨g, rfl, _⟩ := hA; exact ⟨_, _, rfl, by decide⟩
        split at hA
        · obtain rfl := hA; exact ⟨_, _, rfl, by decide⟩
        obtain rfl := hA
        exact ⟨_, _, rfl, by decide⟩
      obtain ⟨t, x, rfl, ht⟩ := hno
      refine (alike_frame_no z h u v l t x ht w hv).mono ?_
      rintro e w' ⟨a1, a2⟩
      exact ⟨false, a1, ⟨fun h => (by cases h), fun h => absurd h hr⟩, a2⟩
theorem bytes_frame (z h u : Int) (g : Value) (l : List PT) (hl : l.length ≤ 1000000) (x : World) (hT : Tab x) (hv : RowV 4 cellsP g l x) :
    Calls Tryd.prog 11 #[.iface 44 (.agg #[.int .i64 z, .int .i64 h, .int .i64 u, g])] x fun e w' => BytesP z ⟨(wframe h u l).toArray⟩ (RightF z h u l) x e w' := by
  refine Bytes_frame z h u g l hl x hT hv (RightF z h u l) _ rfl ?_
  intro x' hT' hv'
  obtain ⟨p, m, c, rfl, _⟩ := hv.shape
  refine whole44 _ z _ (RightF z h u l) (fun y => Tab y ∧ RowV 4 cellsP (.slice p m c) l y) (fun y y' h hb => ⟨h.1.on hb, h.2.on cellsP_size hb⟩) (fun y h => h.1) (fun y => Code44F _ _ _ _ ⟨p, m, c, rfl⟩ y) ?_ x' ⟨hT', hv'⟩
  intro B A y he hA hψ
  exact alike_right hl B A y he hA hψ.2
theorem wbytes_cut (z : Int) (hz : 0 ≤ z ∧ z < 256) (S : ByteArray) (hS : S.size ≤ 65533) : (⟨(wbytes z S).toArray⟩ : ByteArray).size = 4 + S.size ∧ (⟨(wbytes z S).toArray⟩ : ByteArray).extract 4 (4 + S.size) = S := by
  have h1 : (pbytes z 1).length = 1 := by rw [pb_be (by omega) (by omega) hz.1 (by simp; omega), be_length]; rfl
  have h2 : (pbytes ((S.size : Int) + 2) 2).length = 2 := by rw [pb_be (by omega) (by omega) (by omega) (by simp; omega), be_length]; rfl
  have h3 : ([] ++ [255] ++ pbytes z 1 ++ pbytes ((S.size : Int) + 2) 2).length = 4 := by simp only [List.length_append, h1, h2]; rfl
  have hs : S.data.toList.length = S.size := by simp
  constructor
  · show (wbytes z S).toArray.size = _
    rw [List.size_toArray]
    unfold wbytes
    rw [List.length_append, h3, hs]
  · apply ByteArray.ext
    apply Array.toList_inj.1
    rw [ext_list']
    show ((wbytes z S).drop 4).take S.size = _
    unfold wbytes
    rw [List.drop_append_of_le_length (by omega), List.drop_of_length_le (by omega), List.nil_append, ← hs, List.take_length]
theorem SegFrames_any (z h u : Int) (v : Value) (l : List PT) (w : World) (hT : Tab w) (hv : RowE 4 cellsP v l w) :
    Calls Tryd.prog 8 #[.int .i64 z, .int .i64 h, .int .i64 u, v] w fun e w' => e = .returned (.bool true) ∧ Below w.heap.size w w' := by
  by_cases hl : 20 < l.length
  · exact frames_long z h u v l hl w hv
  have hl2 : l.length ≤ 20 := by omega
  by_cases hr : RightF z h u l
  · obtain ⟨e1, e2, e3⟩ := perr_right hr
    have hz := hr.code
    obtain ⟨c1, c2⟩ := wbytes_cut z ⟨by omega, by omega⟩ ⟨(wframe h u l).toArray⟩ e3
    refine frames_yes z h u v l hl2 ⟨hz.2, by omega⟩ _ _ c1 e3 c2 w hv ?_ ?_ ?_
    · intro g x hb hg
      refine (bytes_frame z h u g l (by omega) x (hT.on hb) hg).mono ?_
      rintro e w' ⟨T, E, a1, a2, a3⟩
      rcases a2 with ⟨_, _, rfl, rfl⟩ | ⟨a4, _, _⟩
      · exact ⟨a1, a3⟩
      · exact absurd ⟨e1, hr⟩ a4
    · intro x
      refine (DParse_any z _ x).mono ?_
      rintro e w' ⟨h1, h2⟩
      rcases h1 with ⟨_, h1⟩ | ⟨h1, _⟩
      · rw [e2] at h1; exact ⟨h1, h2⟩
      · exact absurd e1 h1
    · intro x hb
      refine (right_E z h u v l hl2 x (hv.on cellsP_size hb)).mono ?_
      rintro e w' ⟨b, rfl, a2, a3⟩
      rw [a2.2 hr]
      exact ⟨rfl, a3⟩
  · refine frames_no z h u v l hl2 w hv ?_ ?_
    · intro g x hb hg
      refine (bytes_frame z h u g l (by omega) x (hT.on hb) hg).mono ?_
      rintro e w' ⟨T, E, a1, a2, a3⟩
      rcases a2 with ⟨_, a4, _, _⟩ | ⟨_, rfl, rfl⟩
      · exact absurd a4 hr
      · exact ⟨a1, a3⟩
    · intro x hb
      refine (right_E z h u v l hl2 x (hv.on cellsP_size hb)).mono ?_
      rintro e w' ⟨b, rfl, a2, a3⟩
      have : b = false := by
        cases b
        · rfl
        · exact absurd (a2.1 rfl) hr
      rw [this]
      exact ⟨rfl, a3⟩
/-! What an argument's reading says of the memory: a slice of components. -/
open Go.RowKit Go.ChangeShapes Go.WideShapes

theorem cellsOf3 : Tryd.prog.cellsOf 3 = 1 := by kernel_rfl
theorem cellsOf79 : Tryd.prog.cellsOf 79 = 4 := by kernel_rfl
/-- A cell has no inner place. -/
theorem spot_of_cell {w : World} {a : Addr} {v : Value} (h : w.cell? a = some v) : a.spot = none ∧ a.block < w.heap.size := by
  refine ⟨?_, World.block_lt_of_cell? w a h⟩
  unfold World.cell? at h
  split at h
  · split at h
    · cases h
    · rename_i hs; simpa using hs
  · cases h
theorem trod_struct4 {H : Type} {enc : TypeId × Value → H} {P : Program} {w : World} {base : Nat} {spare : Nat → Bool} {held : Bool} {t : TypeId} {f0 f1 f2 f3 : Field} {fuel : Nat} {cs : List Value} {x : DataW H × List MemPlace} (ht : P.underlying t = some (.struct #[f0, f1, f2, f3])) (h : DataW.trod enc P w base spare held fuel t cs = some x) :
    ∃ y0 y1 y2 y3 n, cs.length = P.cellsOf t ∧ DataW.trod enc P w base spare held n f0.type ((cs.drop f0.offset).take (P.cellsOf f0.type)) = some y0 ∧
      DataW.trod enc P w base spare held n f1.type ((cs.drop f1.offset).take (P.cellsOf f1.type)) = some y1 ∧ DataW.trod enc P w base spare held n f2.type ((cs.drop f2.offset).take (P.cellsOf f2.type)) = some y2 ∧
      DataW.trod enc P w base spare held n f3.type ((cs.drop f3.offset).take (P.cellsOf f3.type)) = some y3 := by
  obtain ⟨xs, n, _, rfl, hl, hlen, hf⟩ := DataW.trod_struct ht h
  have hlen4 : xs.length = 4 := hlen
  rcases xs with _ | ⟨y0, _ | ⟨y1, _ | ⟨y2, _ | ⟨y3, _ | ⟨y4, ys⟩⟩⟩⟩⟩
  · simp at hlen4
  · simp at hlen4
  · simp at hlen4
  · simp at hlen4
  · have e0 := hf 0 f0 (by simp)
    have e1 := hf 1 f1 (by simp)
    have e2 := hf 2 f2 (by simp)
    have e3 := hf 3 f3 (by simp)
    exact ⟨y0, y1, y2, y3, n, hl, e0, e1, e2, e3⟩
  · simp at hlen4
set_option maxRecDepth 100000 in
theorem comps_view {H : Type} {enc : TypeId × Value → H} {W : World} {base : Nat} {v : Value} {d : DataW H} {ps : List MemPlace}
    (hv : Value.okWide Tryd.prog W .any base 35 v) (h : DataW.Trod enc Tryd.prog W 0 (fun _ => true) true 35 v d ps) :
    ∃ (p : Option Addr) (cap : Nat) (L : List PT), v = .slice p L.length cap ∧ RowE 4 cellsP (.slice p L.length cap) L W := by
  obtain ⟨a0, len, cap, rfl⟩ := okWide_slice Tryd.underlying35 hv
  obtain ⟨fuel, hf⟩ := h
  rcases Deep.open_slice Tryd.underlying35 hf with ⟨hcs, _⟩ | ⟨a, len', cap', m, n, D, Pl, hcs, _, hl, hm, hmm, _, hel⟩
  · simp [Value.cells] at hcs
    obtain ⟨rfl, rfl, rfl⟩ := hcs
    exact ⟨none, 0, [], rfl, none, 0, rfl, .inl rfl⟩
  · simp [Value.cells] at hcs
    obtain ⟨rfl, rfl, rfl⟩ := hcs
    simp only [if_true] at hmm
    subst hmm
    rw [cellsOf79] at hel
    have key : ∀ i, i < len → ∃ x : PT, W.cell? ((a.add (i * 4)).add 0) = some (.int .i64 x.1) ∧ W.cell? ((a.add (i * 4)).add 1) = some (.int .i64 x.2.1) ∧ W.cell? ((a.add (i * 4)).add 2) = some (.int .i64 x.2.2.1) ∧ W.cell? ((a.add (i * 4)).add 3) = some (.int .i64 x.2.2.2) := by
      intro i hi
      obtain ⟨cs, hcs, htr⟩ := hel i (by omega)
      obtain ⟨y0, y1, y2, y3, k, hlen, h0, h1, h2, h3⟩ := trod_struct4 Tryd.underlying79 htr
      unfold World.cells? at hcs
      rw [if_pos (Nat.zero_le _), show List.range 4 = [0, 1, 2, 3] from rfl] at hcs
      cases e0 : W.cell? ((a.add (i * 4)).add 0) with
      | none => simp [List.mapM_cons, e0] at hcs
      | some c0 =>
        cases e1 : W.cell? ((a.add (i * 4)).add 1) with
        | none => simp [List.mapM_cons, e0, e1] at hcs
        | some c1 =>
          cases e2 : W.cell? ((a.add (i * 4)).add 2) with
          | none => simp [List.mapM_cons, e0, e1, e2] at hcs
          | some c2 =>
            cases e3 : W.cell? ((a.add (i * 4)).add 3) with
            | none => simp [List.mapM_cons, e0, e1, e2, e3] at hcs
            | some c3 =>
              simp [List.mapM_cons, e0, e1, e2, e3] at hcs
              subst hcs
              simp only [cellsOf3] at h0 h1 h2 h3
              obtain ⟨n0, q0, _, w0⟩ := DataW.trod_int Tryd.underlying3 h0
              obtain ⟨n1, q1, _, w1⟩ := DataW.trod_int Tryd.underlying3 h1
              obtain ⟨n2, q2, _, w2⟩ := DataW.trod_int Tryd.underlying3 h2
              obtain ⟨n3, q3, _, w3⟩ := DataW.trod_int Tryd.underlying3 h3
              simp at q0 q1 q2 q3
              subst q0 q1 q2 q3
              exact ⟨(n0, n1, n2, n3), rfl, rfl, rfl, rfl⟩
    obtain ⟨f, hf2⟩ := Deep.choose_lt key
    have hlen : ((List.range len).map f).length = len := by simp
    refine ⟨some a, m, (List.range len).map f, by rw [hlen], some a, m, by rw [hlen], ?_⟩
    by_cases h0 : len = 0
    · left
      rw [h0]; rfl
    · right
      obtain ⟨b, o, sp⟩ := a
      have h00 := (hf2 0 (by omega)).1
      have hadd0 : ((⟨b, o, sp⟩ : Addr).add (0 * 4)).add 0 = ⟨b, o, sp⟩ := by simp [Addr.add]
      rw [hadd0] at h00
      obtain ⟨hsp, hb⟩ := spot_of_cell h00
      simp only at hsp hb
      subst hsp
      refine ⟨some ⟨b, o, none⟩, m, rfl, .inr ⟨b, o, rfl, hb, fun j hj i hi => ?_⟩⟩
      have hj' : j < len := by simpa using hj
      have h2 := hf2 j hj'
      rw [add_none, add_none, add_none, add_none, add_none] at h2
      have e : ((List.range len).map f)[j] = f j := by simp
      rw [e]
      rcases (by omega : i = 0 ∨ i = 1 ∨ i = 2 ∨ i = 3) with rfl | rfl | rfl | rfl
      · rw [show o + (j * 4 + 0) = o + j * 4 + 0 by omega]; exact h2.1
      · rw [show o + (j * 4 + 1) = o + j * 4 + 1 by omega]; exact h2.2.1
      · rw [show o + (j * 4 + 2) = o + j * 4 + 2 by omega]; exact h2.2.2.1
      · rw [show o + (j * 4 + 3) = o + j * 4 + 3 by omega]; exact h2.2.2.2
end Go.Proofs.YtfohgocdabgbgaaDoor
