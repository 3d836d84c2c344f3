/- Walk of package frame: New. A frame, told plainly. -/
import Derived.Test.YtpnkjcahhpbpfaaFLay
namespace Go.Proofs.Ytpnkjcahhpbpfaa
open Go.RowKit

theorem mx_le_mem {l : List FP} : ∀ x ∈ l, x.1.toNat ≤ mxH l ∧ x.2.toNat ≤ mxV l := by
  have go : ∀ (l : List Nat) (b : Nat), b ≤ l.foldl max b ∧ ∀ y ∈ l, y ≤ l.foldl max b := by
    intro l
    induction l with
    | nil => intro b; exact ⟨Nat.le_refl _, fun _ h => by cases h⟩
    | cons c l ih =>
      intro b
      obtain ⟨h1, h2⟩ := ih (max b c)
      refine ⟨Nat.le_trans (Nat.le_max_left b c) h1, fun y hy => ?_⟩
      rcases List.mem_cons.1 hy with rfl | hy
      · exact Nat.le_trans (Nat.le_max_right b y) h1
      · exact h2 y hy
  intro x hx
  exact ⟨(go _ 0).2 _ (List.mem_map.2 ⟨x, hx, rfl⟩), (go _ 0).2 _ (List.mem_map.2 ⟨x, hx, rfl⟩)⟩
theorem up_factor (W m x : Nat) (hW : W ≤ 16384) (h1 : 1 ≤ m) (h4 : m ≤ 4) (hx : x ≤ m) : up W (8 * m) * x ≤ 8192 := by
  have h2 : up W (8 * m) * x ≤ up W (8 * m) * m := Nat.mul_le_mul_left _ hx
  have h3 : up W (8 * m) * m ≤ 8192 := by
    unfold up
    rcases (by omega : m = 1 ∨ m = 2 ∨ m = 3 ∨ m = 4) with rfl | rfl | rfl | rfl <;> omega
  omega
/-- Units across, down; the greatest factors; the grids. -/
def uA (W : Nat) (l : List FP) : Nat := up W (8 * mxH (asF l))
def uD (H : Nat) (l : List FP) : Nat := up H (8 * mxV (asF l))
def grids (W H : Nat) (l : List FP) : List GT := (asF l).map (gridF W H (uA W l) (uD H l) (mxH (asF l)) (mxV (asF l)))
/-- A frame of these sides and factors lies in block k. -/
def FrP (k W H : Nat) (l : List FP) (w : World) : Prop :=
  ∃ p g, Fr k (uA W l) (uD H l) (mxH (asF l)) (mxV (asF l)) p g w ∧ RowV 2 cellsF p (asF l) w ∧ RowV 4 cellsG g (grids W H l) w
theorem FrP.on {k W H : Nat} {l : List FP} {w w' : World} (h : FrP k W H l w) (hb : Below w.heap.size w w') : FrP k W H l w' := by
  obtain ⟨p, g, h1, h2, h3⟩ := h
  exact ⟨p, g, h1.on hb, h2.on cellsF_size hb, h3.on cellsG_size hb⟩
/-- What New answers of sides and factors. -/
def chkN (x y : Int) (l : List FP) : Nat := if chk x y l ≠ 0 then chk x y l else if 16384 < sumG (grids x.toNat y.toNat l) then 11 else 0
/-- Sides and factors that are right. -/
structure OkF (x y : Int) (l : List FP) : Prop where
  x1 : 1 ≤ x
  x2 : x ≤ 16384
  y1 : 1 ≤ y
  y2 : y ≤ 16384
  l1 : 0 < l.length
  l4 : l.length ≤ 4
  ok : okF l
theorem OkF.of {x y : Int} {l : List FP} (h : chk x y l = 0) : OkF x y l := by
  unfold chk at h
  split at h
  · cases h
  · rename_i h1
    split at h
    · cases h
    · split at h
      · cases h
      · rename_i h2 h3
        refine ⟨by omega, by omega, by omega, by omega, by omega, by omega, okF_of ?_⟩
        cases hb : l.any wrongP
        · rfl
        · exact absurd (.inr (.inr (.inr hb))) h1
theorem asF_ok {l : List FP} (h : okF l) : okF (asF l) := by
  unfold asF
  split
  · intro x hx
    obtain rfl : x = ((1, 1) : FP) := by simpa using hx
    simp
  · exact h
theorem asF_len (l : List FP) : (asF l).length = l.length := by
  unfold asF
  split
  · rename_i h; rw [h]; rfl
  · rfl
section
variable {x y : Int} {l : List FP}
theorem OkF.mh (h : OkF x y l) : 1 ≤ mxH (asF l) ∧ mxH (asF l) ≤ 4 := by
  have h1 := mxH_le (asF_ok h.ok) (asF l).length (Nat.le_refl _)
  rw [List.take_length] at h1
  exact ⟨mxH_pos (asF_ok h.ok) (by rw [asF_len]; exact h.l1), h1⟩
theorem OkF.mv (h : OkF x y l) : 1 ≤ mxV (asF l) ∧ mxV (asF l) ≤ 4 := by
  have h1 := mxV_le (asF_ok h.ok) (asF l).length (Nat.le_refl _)
  rw [List.take_length] at h1
  exact ⟨mxV_pos (asF_ok h.ok) (by rw [asF_len]; exact h.l1), h1⟩
theorem OkF.grids (h : OkF x y l) : okG (grids x.toNat y.toNat l) := by
  intro z hz
  obtain ⟨p, hp, rfl⟩ := List.mem_map.1 hz
  have h1 := mx_le_mem p hp
  have hx := h.x2
  have hy := h.y2
  exact ⟨up_factor _ _ _ (by omega) h.mh.1 h.mh.2 h1.1, up_factor _ _ _ (by omega) h.mv.1 h.mv.2 h1.2⟩
end
theorem grids_len (W H : Nat) (l : List FP) : (grids W H l).length = l.length := by
  unfold grids
  rw [List.length_map, asF_len]
set_option maxRecDepth 100000 in
set_option maxHeartbeats 4000000 in
theorem New_bad (x y : Int) (v : Value) (l : List FP) (hl : l.length ≤ 1000) (w : World) (hv : RowV 2 cellsF v l w) (hc : chk x y l ≠ 0) :
    Calls Try.prog 8 #[.int .i64 x, .int .i64 y, v] w fun e w' => e = .returned (.tuple #[.pointer none, .int .i64 (chk x y l : Nat)]) ∧ Below w.heap.size w w' := by
  have HC := Lib.hid (check_any x y v l hl w hv)
  obtain ⟨p, m, c, rfl, hm⟩ := hv.shape
  generalize chk x y l = E at *
  have e1 : ((E : Int) != 0) = true := by rw [bne_iff_ne]; omega
  clear hv hm hl hc
  go_enter Try.func8, Try.ntmps8
  go_wp2_with (go_at_call 20; refine HC.out.mono ?_; rintro e w1 ⟨rfl, hb⟩; have HB := Lib.hid hb; clear hb HC)
  go_ret2
  exact ⟨rfl, HB.out⟩
set_option maxRecDepth 100000 in
set_option maxHeartbeats 4000000 in
theorem New_good (x y : Int) (v : Value) (l : List FP) (hl : l.length ≤ 1000) (w : World) (hv : RowV 2 cellsF v l w) (hc : chk x y l = 0) :
    Calls Try.prog 8 #[.int .i64 x, .int .i64 y, v] w fun e w' => ((sumG (grids x.toNat y.toNat l) ≤ 16384 ∧ ∃ k, e = .returned (.tuple #[.pointer (some ⟨k, 0, none⟩), .int .i64 0]) ∧ w.heap.size ≤ k ∧ FrP k x.toNat y.toNat l w') ∨ (16384 < sumG (grids x.toNat y.toNat l) ∧ e = .returned (.tuple #[.pointer none, .int .i64 11]))) ∧ Below w.heap.size w w' := by
  have hok := OkF.of hc
  obtain ⟨W, rfl⟩ : ∃ W : Nat, x = (W : Int) := ⟨x.toNat, by have := hok.x1; omega⟩
  obtain ⟨H, rfl⟩ : ∃ H : Nat, y = (H : Int) := ⟨y.toNat, by have := hok.y1; omega⟩
  have HOK := Lib.hid hok
  have HC := Lib.hid (check_any W H v l hl w hv)
  rw [hc] at HC
  have HN := Lib.hid fun x (hb : Below w.heap.size w x) => counting_any v l hl x (hv.on cellsF_size hb)
  obtain ⟨p, m, c, rfl, hm⟩ := hv.shape
  have HL := Lib.hid fun B u x (hB : B ≤ x.heap.size) (hu : OwnR 62 2 cellsF B u (asF l) x) => lay_any W H (by have := hok.x2; omega) (by have := hok.y2; omega) u (asF l) (by rw [asF_len]; exact hok.l4) (by rw [asF_len]; exact hok.l1) (asF_ok hok.ok) x B hB hu
  have HG := Lib.hid (show okG (grids W H l) from hok.grids)
  have HGL := Lib.hid (show (grids W H l).length ≤ 4 by rw [grids_len]; exact hok.l4)
  have HSB := Lib.hid (sumG_bound HG.out)
  clear hv hm hl hc hok
  rw [show ((W : Nat) : Int).toNat = W from rfl, show ((H : Nat) : Int).toNat = H from rfl]
  by_cases hs : sumG (grids W H l) ≤ 16384
  · have e1 : ¬ (16384 : Int) < ((sumG (grids W H l) : Nat) : Int) := by omega
    have HS := Lib.hid hs
    clear hs
    go_enter Try.func8, Try.ntmps8
    go_wp2_with (first
      | (go_at_call 20; refine HC.out.mono ?_; rintro e w1 ⟨rfl, hb⟩; have HB := Lib.hid hb; clear hb HC)
      | (go_at_call 22; refine (HN.out _ HB.out).mono ?_; rintro e w2 ⟨u, rfl, ho, hb⟩; have HO := Lib.hid ho; have HB2 := Lib.hid (HB.out.trans (hb.mono HB.out.size)); have HW1 := Lib.hid HB.out.size; have HW2 := Lib.hid hb.size; clear ho hb HN HB)
      | (go_at_call 21; refine (HL.out _ _ _ HW2.out HO.out).mono ?_; rintro e w3 ⟨k, g, hk, rfl, hf, ho, hg, hb⟩; have HF := Lib.hid hf; have HO3 := Lib.hid (ho.view cellsF_size); have HG3 := Lib.hid (show RowV 4 cellsG g (grids W H l) w3 from hg.view cellsG_size); have HK := Lib.hid (Nat.le_trans HW1.out hk); have HB3 := Lib.hid (HB2.out.trans (hb.mono HB2.out.size)); clear ho hb hf hg hk HL HB2 HO)
      | (go_at_call 10; refine (Blocks_any k _ _ _ _ _ g (grids W H l) HGL.out HG.out _ HF.out HG3.out).mono ?_; rintro e w4 ⟨rfl, hb⟩; have HB4 := Lib.hid (HB3.out.trans (hb.mono HB3.out.size)); have HP := Lib.hid (show FrP k W H l w4 from ⟨u, g, HF.out.on hb, HO3.out.on cellsF_size hb, HG3.out.on cellsG_size hb⟩); clear hb HF HO3 HG3 HB3))
    go_ret2
    exact ⟨.inl ⟨HS.out, _, rfl, HK.out, HP.out⟩, HB4.out⟩
  · have e1 : (16384 : Int) < ((sumG (grids W H l) : Nat) : Int) := by omega
    have HS := Lib.hid (show 16384 < sumG (grids W H l) by omega)
    clear hs
    go_enter Try.func8, Try.ntmps8
    go_wp2_with (first
      | (go_at_call 20; refine HC.out.mono ?_; rintro e w1 ⟨rfl, hb⟩; have HB := Lib.hid hb; clear hb HC)
      | (go_at_call 22; refine (HN.out _ HB.out).mono ?_; rintro e w2 ⟨u, rfl, ho, hb⟩; have HO := Lib.hid ho; have HB2 := Lib.hid (HB.out.trans (hb.mono HB.out.size)); have HW1 := Lib.hid HB.out.size; have HW2 := Lib.hid hb.size; clear ho hb HN HB)
      | (go_at_call 21; refine (HL.out _ _ _ HW2.out HO.out).mono ?_; rintro e w3 ⟨k, g, hk, rfl, hf, ho, hg, hb⟩; have HF := Lib.hid hf; have HO3 := Lib.hid (ho.view cellsF_size); have HG3 := Lib.hid (show RowV 4 cellsG g (grids W H l) w3 from hg.view cellsG_size); have HK := Lib.hid (Nat.le_trans HW1.out hk); have HB3 := Lib.hid (HB2.out.trans (hb.mono HB2.out.size)); clear ho hb hf hg hk HL HB2 HO)
      | (go_at_call 10; refine (Blocks_any k _ _ _ _ _ g (grids W H l) HGL.out HG.out _ HF.out HG3.out).mono ?_; rintro e w4 ⟨rfl, hb⟩; have HB4 := Lib.hid (HB3.out.trans (hb.mono HB3.out.size)); have HP := Lib.hid (show FrP k W H l w4 from ⟨u, g, HF.out.on hb, HO3.out.on cellsF_size hb, HG3.out.on cellsG_size hb⟩); clear hb HF HO3 HG3 HB3))
    go_ret2
    exact ⟨.inr ⟨HS.out, rfl⟩, HB4.out⟩
theorem New_any (x y : Int) (v : Value) (l : List FP) (hl : l.length ≤ 1000) (w : World) (hv : RowV 2 cellsF v l w) :
    Calls Try.prog 8 #[.int .i64 x, .int .i64 y, v] w fun e w' => ((chkN x y l = 0 ∧ ∃ k, e = .returned (.tuple #[.pointer (some ⟨k, 0, none⟩), .int .i64 0]) ∧ w.heap.size ≤ k ∧ FrP k x.toNat y.toNat l w') ∨ (chkN x y l ≠ 0 ∧ e = .returned (.tuple #[.pointer none, .int .i64 (chkN x y l : Nat)]))) ∧ Below w.heap.size w w' := by
  by_cases hc : chk x y l = 0
  · refine (New_good x y v l hl w hv hc).mono ?_
    rintro e w' ⟨h1, h2⟩
    refine ⟨?_, h2⟩
    rcases h1 with ⟨h1, h3⟩ | ⟨h1, h3⟩
    · have e : chkN x y l = 0 := by unfold chkN; rw [if_neg (by omega), if_neg (by omega)]
      exact .inl ⟨e, h3⟩
    · have e : chkN x y l = 11 := by unfold chkN; rw [if_neg (by omega), if_pos h1]
      rw [e]
      exact .inr ⟨by omega, h3⟩
  · refine (New_bad x y v l hl w hv hc).mono ?_
    rintro e w' ⟨h1, h2⟩
    have e : chkN x y l = chk x y l := by unfold chkN; rw [if_pos hc]
    rw [e]
    exact ⟨.inr ⟨hc, h1⟩, h2⟩
end Go.Proofs.Ytpnkjcahhpbpfaa
