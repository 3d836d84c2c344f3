/- Walks of the document's own answers: Order, Zig, Swap; and At, Spot, awake, Last. -/
import Derived.Test.YtmdamiodjiipaaaDoorWalk2
namespace Go.Proofs.YtmdamiodjiipaaaDoor
open Go.RowKit

set_option maxHeartbeats 1000000 in
theorem RefSwap (f : Nat → Int) (w : World) : Calls Tryd.prog 17 #[.agg (blk .i16 f)] w fun e w' => e = .returned (.agg (blk .i16 fun i => f (sw i))) ∧ Below w.heap.size w w' := by
  go_enter Tryd.func17, Tryd.ntmps17
  go_wp2
  go_loopw [4] (fun i wr => ∃ u : Nat, i = .int .i64 u ∧ u ≤ 8 ∧ St 23 .i16 f (mix id (fun i => f (sw i)) (8 * u)) w wr) (fun i _ => 8 - (intOf i).toNat)
  case atStart => exact ⟨0, rfl, Nat.zero_le _, St.start (by kernel_rfl) (by kernel_rfl) (mix_zero _ _ _)⟩
  case round =>
    obtain ⟨v, rfl, hv, hS⟩ := hrel
    have HS := Lib.hid hS
    clear hS
    by_cases hlt : v < 8
    · go_wp2
      go_loopw [5] (fun i wr => ∃ u : Nat, i = .int .i64 u ∧ u ≤ 8 ∧ St 23 .i16 f (mix id (fun i => f (sw i)) (8 * v + u)) w wr) (fun i _ => 8 - (intOf i).toNat)
      case atStart => exact ⟨0, rfl, Nat.zero_le _, HS.out⟩
      case round =>
        obtain ⟨u, rfl, hu, hS⟩ := hrel
        have HS := Lib.hid hS
        clear hS
        by_cases hl2 : u < 8
        · have x1 := HS.out.arg.cell (show 8 * u + v < 64 by omega)
          have x2 := HS.out.out.cell (show 8 * v + u < 64 by omega)
          have x3 := HS.out.out.free (8 * v + u)
          have HM := Lib.hid (mix_step .i16 id (fun i => f (sw i)) (8 * v + u) (8 * v + u) (f (8 * u + v)) (by show f _ = f _; congr 1; unfold sw; omega) (fun i _ => id_iff _ i))
          go_wp2
          go_roundw
          case rel => exact ⟨u + 1, by go_num, by omega, HS.out.set HM.out⟩
          case measure => simp [intOf]; omega
        · obtain rfl : u = 8 := by omega
          go_wp2
          go_roundw
          case rel => exact ⟨v + 1, by go_num, by omega, HS.out⟩
          case measure => simp [intOf]; omega
    · obtain rfl : v = 8 := by omega
      have HR : Hid (Row 23 .i16 (w.heap.size + 1 + 1) (fun i => f (sw i)) wr) := by
        have := HS.out.out
        unfold Row at this
        rw [mix_all .i16 id _ fun i hi => hi] at this
        exact this
      go_wp2_with (first
        | refine wpList_load_row rfl 23 _ rfl (w.heap.size + 1 + 1) rfl 23 _ (0, 0) _ HR.out Tryd.underlying23 rfl (sizeB23 _) ?_
        | refine wpList_store_row rfl 23 _ _ rfl (w.heap.size + 1) _ rfl rfl 23 _ HS.out.res (sizeB23 _) ((blk_size _ _).trans (blk_size _ _).symm) (blk_one _ _) ?_)
      refine bodyPost_ret_by (results_cell_row rfl _ _ (w.heap.size + 1) 23 _ (0, 0) _ rfl (Row.setRow HS.out.res) Tryd.underlying23 rfl (sizeB23 _)) rfl ⟨rfl, below_setRow HS.out.low (Nat.le_succ _) _⟩

theorem size27 : (Tryd.prog.info? 27).map (·.size) = some 64 := by kernel_rfl
theorem sizeB27 (f : Nat → Int) : (Tryd.prog.info? 27).map (·.size) = some (blk .i64 f).size := by rw [blk_size]; exact size27
/-- The zigzag as numbers. -/
def zi (k : Nat) : Int := (zz k : Nat)

/-- How many places come ahead of the i-th of a line. -/
def cu (sum i : Nat) : Nat := if i < sum - 7 then 0 else min (i - (sum - 7)) (min (sum + 1) (15 - sum))
def cs : List Nat := [0, 1, 3, 6, 10, 15, 21, 28, 36, 43, 49, 54, 58, 61, 63, 64]
def cnt (sum i : Nat) : Nat := cs.getD sum 0 + cu sum i
theorem cnt_le : ∀ s, s ≤ 15 → ∀ i, i ≤ s + 1 → (s < 15 → i ≤ s + 1 → cnt s i ≤ 64) := by decide +kernel
/-- Which u, which v. -/
def uu (s i : Nat) : Nat := if s % 2 = 1 then s - i else i
def vv (s i : Nat) : Nat := if s % 2 = 1 then i else s - i
theorem cnt_in : ∀ s, s < 15 → ∀ i, i < s + 1 → uu s i < 8 → vv s i < 8 → cnt s i < 64 ∧ cnt s (i + 1) = cnt s i + 1 ∧ zz (cnt s i) = 8 * vv s i + uu s i := by decide +kernel
theorem cnt_out : ∀ s, s < 15 → ∀ i, i < s + 1 → ¬ (uu s i < 8 ∧ vv s i < 8) → cnt s (i + 1) = cnt s i := by decide +kernel
theorem cnt_next : ∀ s, s < 15 → cnt s (s + 1) = cnt (s + 1) 0 := by decide +kernel

/-- Two new rows: the result, and what is being filled. -/
structure So (c : Nat → Int) (w wr : World) : Prop where
  res : Row 27 .i64 w.heap.size (fun _ => 0) wr
  out : Row 27 .i64 (w.heap.size + 1) c wr
  low : Below w.heap.size w wr
theorem So.start {c : Nat → Int} {w : World} {Z Z' : Array Value} (hZ : Z = blk .i64 fun _ => 0) (hZ' : Z' = blk .i64 fun _ => 0) (hc : blk .i64 c = blk .i64 fun _ => 0) : So c w ((w.alloc (.cells Z 27)).alloc (.cells Z' 27)) := by
  refine ⟨(Row.new hZ).old _, ?_, ?_⟩
  · have h := Row.new (t := 27) (w := w.alloc (.cells Z 27)) (hZ'.trans hc.symm)
    rwa [size_alloc] at h
  · exact ((Below.refl _ _).alloc (Nat.le_refl _) _).alloc (by rw [size_alloc]; omega) _
theorem So.set {c c' : Nat → Int} {w wr : World} (h : So c w wr) {i : Nat} {v : Int} (he : (blk .i64 c).setIfInBounds i (.int .i64 v) = blk .i64 c') : So c' w (wr.setCell ⟨w.heap.size + 1, i, none⟩ (.int .i64 v)) :=
  ⟨h.res.other (by omega) _, h.out.set he, h.low.setCell (p := ⟨_, _, none⟩) (by show _ ≤ w.heap.size + 1; omega) _⟩

set_option maxHeartbeats 2000000 in
theorem Order_any (w : World) : Calls Tryd.prog 13 #[] w fun e w' => e = .returned (.agg (blk .i64 zi)) ∧ Below w.heap.size w w' := by
  go_enter Tryd.func13, Tryd.ntmps13
  go_wp2
  go_loopw [2, 3] (fun k sum wr => ∃ s : Nat, sum = .int .i64 s ∧ s ≤ 15 ∧ k = .int .i64 (cnt s 0 : Nat) ∧ So (mix id zi (cnt s 0)) w wr) (fun _ i _ => 15 - (intOf i).toNat)
  case atStart => exact ⟨0, rfl, Nat.zero_le _, rfl, So.start (by kernel_rfl) (by kernel_rfl) (mix_zero _ _ _)⟩
  case round =>
    obtain ⟨s, rfl, hs, rfl, hS⟩ := hrel
    have HS := Lib.hid hS
    clear hS
    by_cases hlt : s < 15
    · go_wp2
      go_loopw [2, 4] (fun k i wr => ∃ j : Nat, i = .int .i64 j ∧ j ≤ s + 1 ∧ k = .int .i64 (cnt s j : Nat) ∧ So (mix id zi (cnt s j)) w wr) (fun _ i _ => s + 1 - (intOf i).toNat)
      case atStart => exact ⟨0, rfl, Nat.zero_le _, rfl, HS.out⟩
      case round =>
        obtain ⟨j, rfl, hj, rfl, hS⟩ := hrel
        have HS := Lib.hid hS
        clear hS
        by_cases hl2 : j ≤ s
        · by_cases hodd : s % 2 = 1
          · have hm : (s : Int) % 2 = 1 := by omega
            by_cases hu : s - j < 8
            · by_cases hv : j < 8
              · have hx := cnt_in s hlt j (by omega) (by unfold uu; rw [if_pos hodd]; exact hu) (by unfold vv; rw [if_pos hodd]; exact hv)
                unfold uu vv at hx
                rw [if_pos hodd, if_pos hodd] at hx
                obtain ⟨c1, c2, c3⟩ := hx
                have HM := Lib.hid (mix_step .i64 id zi (cnt s j) (cnt s j) (zi (cnt s j)) rfl (fun i _ => id_iff _ i))
                rw [← c2, show zi (cnt s j) = 8 * ((j : Int)) + ((s : Int) - (j : Int)) from by unfold zi; rw [c3]; omega] at HM
                have x2 := HS.out.out.cell c1
                have x3 := HS.out.out.free (cnt s j)
                have HC := Lib.hid c2
                clear c2 c3
                have hu' : (s : Int) - (j : Int) < 8 := by omega
                have hv' : (j : Int) < 8 := by omega
                generalize cnt s j = c at *
                generalize hd : cnt s (j + 1) = d at *
                have HD := Lib.hid hd
                clear hd
                go_wp2
                go_roundw
                case rel => exact ⟨j + 1, by go_num, by omega, by rw [HD.out, HC.out]; go_num, by rw [HD.out]; exact HS.out.set HM.out⟩
                case measure => simp [intOf]; omega
              · have HC := Lib.hid (cnt_out s hlt j (by omega) (by unfold uu vv; rw [if_pos hodd, if_pos hodd]; exact fun h => hv h.2))
                have hu' : (s : Int) - (j : Int) < 8 := by omega
                have hv' : ¬ (j : Int) < 8 := by omega
                go_wp2
                go_roundw
                case rel => exact ⟨j + 1, by go_num, by omega, by rw [HC.out], by rw [HC.out]; exact HS.out⟩
                case measure => simp [intOf]; omega
            · have HC := Lib.hid (cnt_out s hlt j (by omega) (by unfold uu vv; rw [if_pos hodd, if_pos hodd]; exact fun h => hu h.1))
              have hu' : ¬ (s : Int) - (j : Int) < 8 := by omega
              go_wp2
              go_roundw
              case rel => exact ⟨j + 1, by go_num, by omega, by rw [HC.out], by rw [HC.out]; exact HS.out⟩
              case measure => simp [intOf]; omega
          · have hm : ((s : Int) % 2 == 1) = false := by simp; omega
            by_cases hu : j < 8
            · by_cases hv : s - j < 8
              · have hx := cnt_in s hlt j (by omega) (by unfold uu; rw [if_neg hodd]; exact hu) (by unfold vv; rw [if_neg hodd]; exact hv)
                unfold uu vv at hx
                rw [if_neg hodd, if_neg hodd] at hx
                obtain ⟨c1, c2, c3⟩ := hx
                have HM := Lib.hid (mix_step .i64 id zi (cnt s j) (cnt s j) (zi (cnt s j)) rfl (fun i _ => id_iff _ i))
                rw [← c2, show zi (cnt s j) = 8 * ((s : Int) - (j : Int)) + ((j : Int)) from by unfold zi; rw [c3]; omega] at HM
                have x2 := HS.out.out.cell c1
                have x3 := HS.out.out.free (cnt s j)
                have HC := Lib.hid c2
                clear c2 c3
                have hu' : (j : Int) < 8 := by omega
                have hv' : (s : Int) - (j : Int) < 8 := by omega
                generalize cnt s j = c at *
                generalize hd : cnt s (j + 1) = d at *
                have HD := Lib.hid hd
                clear hd
                go_wp2
                go_roundw
                case rel => exact ⟨j + 1, by go_num, by omega, by rw [HD.out, HC.out]; go_num, by rw [HD.out]; exact HS.out.set HM.out⟩
                case measure => simp [intOf]; omega
              · have HC := Lib.hid (cnt_out s hlt j (by omega) (by unfold uu vv; rw [if_neg hodd, if_neg hodd]; exact fun h => hv h.2))
                have hu' : (j : Int) < 8 := by omega
                have hv' : ¬ (s : Int) - (j : Int) < 8 := by omega
                go_wp2
                go_roundw
                case rel => exact ⟨j + 1, by go_num, by omega, by rw [HC.out], by rw [HC.out]; exact HS.out⟩
                case measure => simp [intOf]; omega
            · have HC := Lib.hid (cnt_out s hlt j (by omega) (by unfold uu vv; rw [if_neg hodd, if_neg hodd]; exact fun h => hu h.1))
              have hu' : ¬ (j : Int) < 8 := by omega
              go_wp2
              go_roundw
              case rel => exact ⟨j + 1, by go_num, by omega, by rw [HC.out], by rw [HC.out]; exact HS.out⟩
              case measure => simp [intOf]; omega
        · obtain rfl : j = s + 1 := by omega
          have HN := Lib.hid (cnt_next s hlt)
          go_wp2
          go_roundw
          case rel => exact ⟨s + 1, by go_num, by omega, by rw [HN.out], by rw [← HN.out]; exact HS.out⟩
          case measure => simp [intOf]; omega
    · obtain rfl : s = 15 := by omega
      have HR : Hid (Row 27 .i64 (w.heap.size + 1) zi wr) := by
        have := HS.out.out
        unfold Row at this
        rw [show cnt 15 0 = 64 by decide +kernel, mix_all .i64 id _ fun i hi => hi] at this
        exact this
      go_wp2_with (first
        | refine wpList_load_row rfl 27 _ rfl (w.heap.size + 1) rfl 27 _ (0, 0) _ HR.out Tryd.underlying27 rfl (sizeB27 _) ?_
        | refine wpList_store_row rfl 27 _ _ rfl w.heap.size _ rfl rfl 27 _ HS.out.res (sizeB27 _) ((blk_size _ _).trans (blk_size _ _).symm) (blk_one _ _) ?_)
      refine bodyPost_ret_by (results_cell_row rfl _ _ w.heap.size 27 _ (0, 0) _ rfl (Row.setRow HS.out.res) Tryd.underlying27 rfl (sizeB27 _)) rfl ⟨rfl, below_setRow HS.out.low (Nat.le_refl _) _⟩

theorem St.on {t : TypeId} {K : IntKind} {f c : Nat → Int} {w wr wr' : World} (h : St t K f c w wr) (hb : Below wr.heap.size wr wr') : St t K f c w wr' :=
  ⟨h.arg.on hb, h.res.on hb, h.out.on hb, h.low.trans (hb.mono h.low.size)⟩
theorem Row.same {t : TypeId} {K : IntKind} {g : Nat} {f f' : Nat → Int} {w : World} (h : Row t K g f w) (he : blk K f = blk K f') : Row t K g f' w := by
  unfold Row at *; rw [← he]; exact h

theorem Row.fresh {t : TypeId} {K : IntKind} {f : Nat → Int} {w : World} {c : Array Value} : Row t K w.heap.size f ((w.alloc (.cells c t)).setRow w.heap.size (blk K f)) := setRow_heap _ _ _ _ t (0, 0) (heap_alloc_new _ _)
theorem below_fresh {t : TypeId} {w : World} {c c' : Array Value} : Below w.heap.size w ((w.alloc (.cells c t)).setRow w.heap.size c') := below_setRow ((Below.refl _ _).alloc (Nat.le_refl _) _) (Nat.le_refl _) _

/-- The document's Zig: three rows, and the zigzag's numbers in a fourth one. -/
theorem RefZig (f : Nat → Int) (w : World) : Calls Tryd.prog 16 #[.agg (blk .i16 f)] w fun e w' => e = .returned (.agg (blk .i16 fun k => f (zz k))) ∧ Below w.heap.size w w' := by
  go_enter Tryd.func16, Tryd.ntmps16
  go_wp2_with fail
  go_at_call 13
  refine (Order_any _).mono ?_
  rintro e w1 ⟨rfl, b1⟩
  have H1 : Hid (St 23 .i16 f (mix id (fun k => f (zz k)) 0) w w1) := (St.start (by kernel_rfl) (by kernel_rfl) (mix_zero _ _ _)).on b1
  have hs1 : w.heap.size + 1 + 1 < w1.heap.size := H1.out.out.lt
  clear b1
  go_wp2_with (refine wpList_store_row rfl 27 _ _ rfl w1.heap.size _ rfl rfl 27 _ (heap_alloc_new _ _) (sizeB27 _) (by rw [blk_size]; kernel_rfl) (blk_one _ _) ?_)
  go_loopw [5] (fun i wr => ∃ k : Nat, i = .int .i64 k ∧ k ≤ 64 ∧ St 23 .i16 f (mix id (fun k => f (zz k)) k) w wr ∧ Row 27 .i64 w1.heap.size zi wr) (fun i _ => 64 - (intOf i).toNat)
  case atStart => exact ⟨0, rfl, Nat.zero_le _, H1.out.on below_fresh, Row.fresh⟩
  case round =>
    obtain ⟨k, rfl, hk, hS, hO⟩ := hrel
    have HS := Lib.hid hS
    have HO := Lib.hid hO
    clear hS hO
    by_cases hlt : k < 64
    · have x0 := HO.out.cell hlt
      unfold zi at x0
      have hp := zz_lt k hlt
      have x1 := HS.out.arg.cell hp
      have x2 := HS.out.out.cell hlt
      have x3 := HS.out.out.free k
      have HM := Lib.hid (mix_step .i16 id (fun k => f (zz k)) k k (f (zz k)) rfl fun i _ => id_iff k i)
      generalize zz k = p at x0 hp x1 HM
      go_wp2
      go_roundw
      case rel => exact ⟨k + 1, by go_num, by omega, HS.out.set HM.out, HO.out.other (by omega) _⟩
      case measure => simp [intOf]; omega
    · obtain rfl : k = 64 := by omega
      have HR : Hid (Row 23 .i16 (w.heap.size + 1 + 1) (fun k => f (zz k)) wr) := HS.out.out.same (mix_all .i16 id _ fun i hi => hi)
      go_wp2_with (first
        | refine wpList_load_row rfl 23 _ rfl (w.heap.size + 1 + 1) rfl 23 _ (0, 0) _ HR.out Tryd.underlying23 rfl (sizeB23 _) ?_
        | refine wpList_store_row rfl 23 _ _ rfl (w.heap.size + 1) _ rfl rfl 23 _ HS.out.res (sizeB23 _) ((blk_size _ _).trans (blk_size _ _).symm) (blk_one _ _) ?_)
      refine bodyPost_ret_by (results_cell_row rfl _ _ (w.heap.size + 1) 23 _ (0, 0) _ rfl (Row.setRow HS.out.res) Tryd.underlying23 rfl (sizeB23 _)) rfl ⟨rfl, below_setRow HS.out.low (Nat.le_succ _) _⟩
end Go.Proofs.YtmdamiodjiipaaaDoor
