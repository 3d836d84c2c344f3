/- (Layer 4.) Blocks as functions of a place; the zigzag and the diagonal; what a loop has filled so far. -/
import Derived.Test.YtfohgocdabgbgaaDoorSPart
namespace Go.Proofs.YtfohgocdabgbgaaDoor
open Go.RowKit

def zt : List Nat := [0, 1, 8, 16, 9, 2, 3, 10, 17, 24, 32, 25, 18, 11, 4, 5, 12, 19, 26, 33, 40, 48, 41, 34, 27, 20, 13, 6, 7, 14, 21, 28, 35, 42, 49, 56, 57, 50, 43, 36, 29, 22, 15, 23, 30, 37, 44, 51, 58, 59, 52, 45, 38, 31, 39, 46, 53, 60, 61, 54, 47, 55, 62, 63]
/-- The place that comes k-th. -/
def zz (k : Nat) : Nat := zt.getD k 0
/-- When a place comes. -/
def sp (i : Nat) : Nat := zt.idxOf i

theorem zz_lt : ∀ k, k < 64 → zz k < 64 := by decide +kernel
theorem sp_lt : ∀ i, i < 64 → sp i < 64 := by decide +kernel
theorem sp_zz : ∀ k, k < 64 → sp (zz k) = k := by decide +kernel
theorem zz_sp : ∀ i, i < 64 → zz (sp i) = i := by decide +kernel

/-- A block's cells. -/
def blk (K : IntKind) (f : Nat → Int) : Array Value := ((List.range 64).map fun i => Value.int K (f i)).toArray
theorem blk_size (K : IntKind) (f : Nat → Int) : (blk K f).size = 64 := by simp [blk]
theorem blk_at (K : IntKind) (f : Nat → Int) (i : Nat) (h : i < 64) : (blk K f)[i]? = some (.int K (f i)) := by
  unfold blk
  rw [List.getElem?_toArray, List.getElem?_map, List.getElem?_range h]
  rfl
theorem blk_congr {K : IntKind} {f g : Nat → Int} (h : ∀ i, i < 64 → f i = g i) : blk K f = blk K g := by
  unfold blk
  congr 1
  refine List.map_congr_left fun i hi => ?_
  rw [h i (List.mem_range.1 hi)]
theorem blk_one (K : IntKind) (f : Nat → Int) : (blk K f).all (·.oneCell') = true := by
  rw [Array.all_eq_true_iff_forall_mem]
  intro x hx
  unfold blk at hx
  simp only [List.mem_toArray, List.mem_map] at hx
  obtain ⟨i, _, rfl⟩ := hx
  rfl
theorem blk_set (K : IntKind) (f : Nat → Int) (p : Nat) (v : Int) : (blk K f).setIfInBounds p (.int K v) = blk K (fun i => if i = p then v else f i) := by
  apply Array.ext_getElem?
  intro i
  rw [Array.getElem?_setIfInBounds]
  by_cases hi : i < 64
  · rw [blk_at K (fun i => if i = p then v else f i) i hi, blk_size]
    by_cases hp : p = i
    · subst hp; simp [hi]
    · have hp' : ¬ i = p := fun e => hp e.symm
      simp [hp, hp', blk_at K f i hi]
  · have h1 : (blk K (fun i => if i = p then v else f i))[i]? = none := by rw [Array.getElem?_eq_none]; rw [blk_size]; omega
    have h2 : (blk K f)[i]? = none := by rw [Array.getElem?_eq_none]; rw [blk_size]; omega
    rw [h1, h2]
    by_cases hp : p = i
    · subst hp; simp [blk_size, hi]
    · simp [hp]

/-- What has been filled before the k-th. -/
def mix (s : Nat → Nat) (g : Nat → Int) (k : Nat) : Nat → Int := fun i => if s i < k then g i else 0
theorem mix_zero (K : IntKind) (s : Nat → Nat) (g : Nat → Int) : blk K (mix s g 0) = blk K (fun _ => 0) := blk_congr fun i _ => by simp [mix]
theorem mix_all (K : IntKind) (s : Nat → Nat) (g : Nat → Int) (h : ∀ i, i < 64 → s i < 64) : blk K (mix s g 64) = blk K g := blk_congr fun i hi => by simp [mix, h i hi]
theorem mix_step (K : IntKind) (s : Nat → Nat) (g : Nat → Int) (k p : Nat) (v : Int) (hv : v = g p) (h : ∀ i, i < 64 → (s i = k ↔ i = p)) : (blk K (mix s g k)).setIfInBounds p (.int K v) = blk K (mix s g (k + 1)) := by
  subst hv
  rw [blk_set]
  refine blk_congr fun i hi => ?_
  have := h i hi
  unfold mix
  by_cases hp : i = p
  · subst hp
    have hk := this.2 rfl
    simp [hk]
  · have hk : ¬ s i = k := fun e => hp (this.1 e)
    by_cases h1 : s i < k
    · simp [hp, h1, Nat.lt_succ_of_lt h1]
    · have h2 : ¬ s i < k + 1 := by omega
      simp [hp, h1, h2]
theorem id_iff (k i : Nat) : id i = k ↔ i = k := Iff.rfl
theorem sp_iff (k : Nat) (hk : k < 64) (i : Nat) (hi : i < 64) : sp i = k ↔ i = zz k := ⟨fun e => by rw [← e, zz_sp i hi], fun e => by rw [e, sp_zz k hk]⟩
end Go.Proofs.YtfohgocdabgbgaaDoor
