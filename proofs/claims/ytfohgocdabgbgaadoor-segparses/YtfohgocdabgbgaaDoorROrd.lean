/- Walk of the document's own Order. -/
import Derived.Test.YtfohgocdabgbgaaDoorZWalk
namespace Go.Proofs.YtfohgocdabgbgaaDoor
open Go.RowKit

theorem sizeO : (Tryd.prog.info? 135).map (·.size) = some 64 := by kernel_rfl
theorem sizeBO (f : Nat → Int) : (Tryd.prog.info? 135).map (·.size) = some (blk .i64 f).size := by rw [blk_size]; exact sizeO
/-- The zigzag as numbers. -/
def zi (k : Nat) : Int := (zz k : Nat)

/-- How many places come ahead of the i-th of a line. -/
def cu (sum i : Nat) : Nat := if i < sum - 7 then 0 else min (i - (sum - 7)) (min (sum + 1) (15 - sum))
def ocs : List Nat := [0, 1, 3, 6, 10, 15, 21, 28, 36, 43, 49, 54, 58, 61, 63, 64]
def ocnt (sum i : Nat) : Nat := ocs.getD sum 0 + cu sum i
theorem ocnt_le : ∀ s, s ≤ 15 → ∀ i, i ≤ s + 1 → (s < 15 → i ≤ s + 1 → ocnt s i ≤ 64) := by decide +kernel
/-- Which u, which v. -/
def uu (s i : Nat) : Nat := if s % 2 = 1 then s - i else i
def vv (s i : Nat) : Nat := if s % 2 = 1 then i else s - i
theorem ocnt_in : ∀ s, s < 15 → ∀ i, i < s + 1 → uu s i < 8 → vv s i < 8 → ocnt s i < 64 ∧ ocnt s (i + 1) = ocnt s i + 1 ∧ zz (ocnt s i) = 8 * vv s i + uu s i := by decide +kernel
theorem ocnt_out : ∀ s, s < 15 → ∀ i, i < s + 1 → ¬ (uu s i < 8 ∧ vv s i < 8) → ocnt s (i + 1) = ocnt s i := by decide +kernel
theorem ocnt_next : ∀ s, s < 15 → ocnt s (s + 1) = ocnt (s + 1) 0 := by decide +kernel

/-- Two new rows: the result, and what is being filled. -/
structure OSo (c : Nat → Int) (w wr : World) : Prop where
  res : RowZ 135 .i64 w.heap.size (fun _ => 0) wr
  out : RowZ 135 .i64 (w.heap.size + 1) c wr
  low : Below w.heap.size w wr
theorem OSo.start {c : Nat → Int} {w : World} {Z Z' : Array Value} (hZ : Z = blk .i64 fun _ => 0) (hZ' : Z' = blk .i64 fun _ => 0) (hc : blk .i64 c = blk .i64 fun _ => 0) : OSo c w ((w.alloc (.cells Z 135)).alloc (.cells Z' 135)) := by
  refine ⟨(RowZ.new hZ).old _, ?_, ?_⟩
  · have h := RowZ.new (t := 135) (w := w.alloc (.cells Z 135)) (hZ'.trans hc.symm)
    rwa [size_alloc] at h
  · exact ((Below.refl _ _).alloc (Nat.le_refl _) _).alloc (by rw [size_alloc]; omega) _
theorem OSo.set {c c' : Nat → Int} {w wr : World} (h : OSo c w wr) {i : Nat} {v : Int} (he : (blk .i64 c).setIfInBounds i (.int .i64 v) = blk .i64 c') : OSo c' w (wr.setCell ⟨w.heap.size + 1, i, none⟩ (.int .i64 v)) :=
  ⟨h.res.other (by omega) _, h.out.set he, h.low.setCell (p := ⟨_, _, none⟩) (by show _ ≤ w.heap.size + 1; omega) _⟩

set_option maxHeartbeats 2000000 in
theorem Order_any (w : World) : Calls Tryd.prog 56 #[] w fun e w' => e = .returned (.agg (blk .i64 zi)) ∧ Below w.heap.size w w' := by
  go_enter Tryd.func56, Tryd.ntmps56
  go_wp2
  go_loopw [2, 3] (fun k sum wr => ∃ s : Nat, sum = .int .i64 s ∧ s ≤ 15 ∧ k = .int .i64 (ocnt s 0 : Nat) ∧ OSo (mix id zi (ocnt s 0)) w wr) (fun _ i _ => 15 - (intOf i).toNat)
  case atStart => exact ⟨0, rfl, Nat.zero_le _, rfl, OSo.start (by kernel_rfl) (by kernel_rfl) (mix_zero _ _ _)⟩
  case round =>
    obtain ⟨s, rfl, hs, rfl, hS⟩ := hrel
    have HS := Lib.hid hS
    clear hS
    by_cases hlt : s < 15
    · go_wp2
      go_loopw [2, 4] (fun k i wr => ∃ j : Nat, i = .int .i64 j ∧ j ≤ s + 1 ∧ k = .int .i64 (ocnt s j : Nat) ∧ OSo (mix id zi (ocnt s j)) w wr) (fun _ i _ => s + 1 - (intOf i).toNat)
      case atStart => exact ⟨0, rfl, Nat.zero_le _, rfl, HS.out⟩
      case round =>
        obtain ⟨j, rfl, hj, rfl, hS⟩ := hrel
        have HS := Lib.hid hS
        clear hS
        by_cases hl2 : j ≤ s
        · by_cases hodd : s % 2 = 1
          · have hm : (s : Int) % 2 = 1 := by omega
            by_cases hu : s - j < 8
            · by_cases hv : j < 8
              · have hx := ocnt_in s hlt j (by omega) (by unfold uu; rw [if_pos hodd]; exact hu) (by unfold vv; rw [if_pos hodd]; exact hv)
                unfold uu vv at hx
                rw [if_pos hodd, if_pos hodd] at hx
                obtain ⟨c1, c2, c3⟩ := hx
                have HM := Lib.hid (mix_step .i64 id zi (ocnt s j) (ocnt s j) (zi (ocnt s j)) rfl (fun i _ => id_iff _ i))
                rw [← c2, show zi (ocnt s j) = 8 * ((j : Int)) + ((s : Int) - (j : Int)) from by unfold zi; rw [c3]; omega] at HM
                have x2 := HS.out.out.cell c1
                have x3 := HS.out.out.free (ocnt s j)
                have HC := Lib.hid c2
                clear c2 c3
                have hu' : (s : Int) - (j : Int) < 8 := by omega
                have hv' : (j : Int) < 8 := by omega
                generalize ocnt s j = c at *
                generalize hd : ocnt s (j + 1) = d at *
                have HD := Lib.hid hd
                clear hd
                go_wp2
                go_roundw
                case rel => exact ⟨j + 1, by go_num, by omega, by rw [HD.out, HC.out]; go_num, by rw [HD.out]; exact HS.out.set HM.out⟩
                case measure => simp [intOf]; omega
              · have HC := Lib.hid (ocnt_out s hlt j (by omega) (by unfold uu vv; rw [if_pos hodd, if_pos hodd]; exact fun h => hv h.2))
                have hu' : (s : Int) - (j : Int) < 8 := by omega
                have hv' : ¬ (j : Int) < 8 := by omega
                go_wp2
                go_roundw
                case rel => exact ⟨j + 1, by go_num, by omega, by rw [HC.out], by rw [HC.out]; exact HS.out⟩
                case measure => simp [intOf]; omega
            · have HC := Lib.hid (ocnt_out s hlt j (by omega) (by unfold uu vv; rw [if_pos hodd, if_pos hodd]; exact fun h => hu h.1))
              have hu' : ¬ (s : Int) - (j : Int) < 8 := by omega
              go_wp2
              go_roundw
              case rel => exact ⟨j + 1, by go_num, by omega, by rw [HC.out], by rw [HC.out]; exact HS.out⟩
              case measure => simp [intOf]; omega
          · have hm : ((s : Int) % 2 == 1) = false := by simp; omega
            by_cases hu : j < 8
            · by_cases hv : s - j < 8
              · have hx := ocnt_in s hlt j (by omega) (by unfold uu; rw [if_neg hodd]; exact hu) (by unfold vv; rw [if_neg hodd]; exact hv)
                unfold uu vv at hx
                rw [if_neg hodd, if_neg hodd] at hx
                obtain ⟨c1, c2, c3⟩ := hx
                have HM := Lib.hid (mix_step .i64 id zi (ocnt s j) (ocnt s j) (zi (ocnt s j)) rfl (fun i _ => id_iff _ i))
                rw [← c2, show zi (ocnt s j) = 8 * ((s : Int) - (j : Int)) + ((j : Int)) from by unfold zi; rw [c3]; omega] at HM
                have x2 := HS.out.out.cell c1
                have x3 := HS.out.out.free (ocnt s j)
                have HC := Lib.hid c2
                clear c2 c3
                have hu' : (j : Int) < 8 := by omega
                have hv' : (s : Int) - (j : Int) < 8 := by omega
                generalize ocnt s j = c at *
                generalize hd : ocnt s (j + 1) = d at *
                have HD := Lib.hid hd
                clear hd
                go_wp2
                go_roundw
                case rel => exact ⟨j + 1, by go_num, by omega, by rw [HD.out, HC.out]; go_num, by rw [HD.out]; exact HS.out.set HM.out⟩
                case measure => simp [intOf]; omega
              · have HC := Lib.hid (ocnt_out s hlt j (by omega) (by unfold uu vv; rw [if_neg hodd, if_neg hodd]; exact fun h => hv h.2))
                have hu' : (j : Int) < 8 := by omega
                have hv' : ¬ (s : Int) - (j : Int) < 8 := by omega
                go_wp2
                go_roundw
                case rel => exact ⟨j + 1, by go_num, by omega, by rw [HC.out], by rw [HC.out]; exact HS.out⟩
                case measure => simp [intOf]; omega
            · have HC := Lib.hid (ocnt_out s hlt j (by omega) (by unfold uu vv; rw [if_neg hodd, if_neg hodd]; exact fun h => hu h.1))
              have hu' : ¬ (j : Int) < 8 := by omega
              go_wp2
              go_roundw
              case rel => exact ⟨j + 1, by go_num, by omega, by rw [HC.out], by rw [HC.out]; exact HS.out⟩
              case measure => simp [intOf]; omega
        · obtain rfl : j = s + 1 := by omega
          have HN := Lib.hid (ocnt_next s hlt)
          go_wp2
          go_roundw
          case rel => exact ⟨s + 1, by go_num, by omega, by rw [HN.out], by rw [← HN.out]; exact HS.out⟩
          case measure => simp [intOf]; omega
    · obtain rfl : s = 15 := by omega
      have HR : Hid (RowZ 135 .i64 (w.heap.size + 1) zi wr) := by
        have := HS.out.out
        unfold RowZ at this
        rw [show ocnt 15 0 = 64 by decide +kernel, mix_all .i64 id _ fun i hi => hi] at this
        exact this
      go_wp2_with (first
        | refine wpList_load_row rfl 135 _ rfl (w.heap.size + 1) rfl 135 _ (0, 0) _ HR.out Tryd.underlying135 rfl (sizeBO _) ?_
        | refine wpList_store_row rfl 135 _ _ rfl w.heap.size _ rfl rfl 135 _ HS.out.res (sizeBO _) ((blk_size _ _).trans (blk_size _ _).symm) (blk_one _ _) ?_)
      refine bodyPost_ret_by (results_cell_row rfl _ _ w.heap.size 135 _ (0, 0) _ rfl (RowZ.setRow HS.out.res) Tryd.underlying135 rfl (sizeBO _)) rfl ⟨rfl, below_setRow HS.out.low (Nat.le_refl _) _⟩

end Go.Proofs.YtfohgocdabgbgaaDoor
