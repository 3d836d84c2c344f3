/- Counts and tables in memory; walks of after, counted, free, single. -/
import Derived.Test.YtfohgocdabgbgaaDoorZWalk
import Derived.Test.YtfohgocdabgbgaaDoorHPlain
import Derived.Laws.Rows
import Derived.Laws.Tables
namespace Go.Proofs.YtfohgocdabgbgaaDoor
open Go.RowKit

/-- The cells of counts. -/
def cnt (c : Nat → Nat) : Array Value := ((List.range 16).map fun i => Value.int .u8 (c i : Nat)).toArray
theorem cnt_size (c : Nat → Nat) : (cnt c).size = 16 := by simp [cnt]
theorem cnt_at (c : Nat → Nat) (i : Nat) (h : i < 16) : (cnt c)[i]? = some (.int .u8 (c i : Nat)) := by
  unfold cnt
  rw [List.getElem?_toArray, List.getElem?_map, List.getElem?_range h]
  rfl
theorem cnt_one (c : Nat → Nat) : (cnt c).all (·.oneCell') = true := by
  rw [Array.all_eq_true_iff_forall_mem]
  intro x hx
  unfold cnt at hx
  simp only [List.mem_toArray, List.mem_map] at hx
  obtain ⟨i, _, rfl⟩ := hx
  rfl
theorem cell_new (c : Nat → Nat) (w : World) (i : Nat) (h : i < 16) : (w.alloc (.cells (cnt c) 71)).cell? ⟨w.heap.size, i, none⟩ = some (.int .u8 (c i : Nat)) := by
  rw [cell_of_row _ w.heap.size i (cnt c) 71 (0, 0) (heap_alloc_new _ _), cnt_at c i h]
theorem size22 (c : Nat → Nat) : (Tryd.prog.info? 71).map (·.size) = some (cnt c).size := by rw [cnt_size]; kernel_rfl
theorem below_box (w : World) (o : Obj) : Below w.heap.size w (w.alloc o) := (Below.refl _ _).alloc (Nat.le_refl _) _

set_option maxHeartbeats 400000 in
theorem after_any (a b : Nat) (ha : a ≤ 100000000) (hb : b ≤ 100000000) (w : World) : Calls Tryd.prog 86 #[.int .i64 a, .int .i64 b] w fun e w' => e = .returned (.int .i64 (2 * (a + b) : Nat)) ∧ w = w' := by
  go_enter Tryd.func86, Tryd.ntmps86
  go_wp2
  go_ret
  exact ⟨ret_int (by omega), rfl⟩

set_option maxHeartbeats 1000000 in
theorem counted_any (c : Nat → Nat) (hc : ∀ i, c i < 256) (m : Nat) (w : World) :
    Calls Tryd.prog 83 #[.agg (cnt c), .int .i64 m] w fun e w' => e = .returned (.bool (decide (off c 16 = m ∧ 1 ≤ m ∧ m ≤ 256))) ∧ Below w.heap.size w w' := by
  have HC := Lib.hid (cell_new c w)
  have HB := Lib.hid (below_box w (.cells (cnt c) 71))
  have HCC := Lib.hid hc
  clear hc
  obtain ⟨R, hR⟩ : ∃ R, R = decide (off c 16 = m ∧ 1 ≤ m ∧ m ≤ 256) := ⟨_, rfl⟩
  rw [← hR]
  have HR := Lib.hid hR
  clear hR
  go_enter Tryd.func83, Tryd.ntmps83
  go_wp2
  generalize w.alloc (.cells (cnt c) 71) = w1 at *
  go_loop [5, 7] (fun s i => ∃ k : Nat, k ≤ 16 ∧ i = .int .i64 k ∧ s = .int .i64 (off c k : Nat)) (fun _ i => 16 - (intOf i).toNat)
  case atStart => exact ⟨0, by omega, rfl, rfl⟩
  case round =>
    obtain ⟨k, hk, rfl, rfl⟩ := hrel
    have hb := off_bound c HCC.out k
    by_cases hlt : k < 16
    · have x0 := HC.out k hlt
      have h1 := HCC.out k
      have HS := Lib.hid (show off c (k + 1) = off c k + c k from rfl)
      generalize off c k = S at *
      generalize c k = d at *
      go_wp2
      go_round
      case rel => exact ⟨k + 1, by omega, by go_num, by rw [HS.out]; go_num⟩
      case measure => simp [intOf]; omega
    · obtain rfl : k = 16 := by omega
      generalize off c 16 = S at *
      clear hlt
      by_cases e : S = m
      · subst e
        by_cases h1 : 1 ≤ S
        · by_cases h2 : S ≤ 256
          · go_wp2
            go_ret
            exact ⟨ret_bool (by rw [HR.out, Bool.eq_iff_iff]; simp; omega), HB.out⟩
          · go_wp2
            go_ret
            exact ⟨ret_bool (by rw [HR.out, Bool.eq_iff_iff]; simp; omega), HB.out⟩
        · go_wp2
          go_ret
          exact ⟨ret_bool (by rw [HR.out, Bool.eq_iff_iff]; simp; omega), HB.out⟩
      · have he : ((S : Int) == (m : Int)) = false := by rw [beq_eq_false_iff_ne]; omega
        go_wp2
        go_ret
        exact ⟨ret_bool (by rw [HR.out]; simp [e]), HB.out⟩

theorem ones_small (k : Nat) (hk : k < 16) : wrap64 (wrap64 ((2 : Int) ^ (k + 1)) - 1) = ((2 ^ (k + 1) - 1 : Nat) : Int) := by
  have h1 := pow_le24 (k + 1) (by omega)
  have h2 := Nat.two_pow_pos (k + 1)
  rw [show wrap64 ((2 : Int) ^ (k + 1)) = ((2 ^ (k + 1) : Nat) : Int) from wrap_pow (k + 1) (by omega), show ((2 ^ (k + 1) : Nat) : Int) - 1 = ((2 ^ (k + 1) - 1 : Nat) : Int) by omega]
  exact wrap64_nat _ (by omega)
theorem ones_lt (k : Nat) (hk : k < 16) (x : Nat) : wrap64 (wrap64 ((2 : Int) ^ (k + 1)) - 1) < (x : Int) ↔ 2 ^ (k + 1) ≤ x := by
  have h2 := Nat.two_pow_pos (k + 1)
  rw [ones_small k hk]
  omega
set_option maxHeartbeats 1000000 in
theorem free_yes (c : Nat → Nat) (hc : ∀ i, c i < 256) (hf : ∀ n, n < 16 → fst c n + c n < 2 ^ (n + 1)) (w : World) :
    Calls Tryd.prog 85 #[.agg (cnt c)] w fun e w' => e = .returned (.bool true) ∧ Below w.heap.size w w' := by
  have HC := Lib.hid (cell_new c w)
  have HB := Lib.hid (below_box w (.cells (cnt c) 71))
  have HCC := Lib.hid hc
  have HF := Lib.hid hf
  clear hc hf
  go_enter Tryd.func85, Tryd.ntmps85
  go_wp2
  generalize w.alloc (.cells (cnt c) 71) = w1 at *
  go_loop [3, 6] (fun s i => ∃ k : Nat, k ≤ 16 ∧ i = .int .i64 k ∧ s = .int .i64 (fst c k : Nat)) (fun _ i => 16 - (intOf i).toNat)
  case atStart => exact ⟨0, by omega, rfl, rfl⟩
  case round =>
    obtain ⟨k, hk, rfl, rfl⟩ := hrel
    have hb := fst_16 c HCC.out k hk
    by_cases hlt : k < 16
    · have x0 := HC.out k hlt
      have h1 := HCC.out k
      have h2 := HF.out k hlt
      have HS := Lib.hid (show fst c (k + 1) = 2 * (fst c k + c k) from rfl)
      have hq : ¬ wrap64 (wrap64 ((2 : Int) ^ (k + 1)) - 1) < (fst c k : Int) + (c k : Int) := by rw [← Int.natCast_add, ones_lt k hlt]; omega
      clear h2
      generalize fst c k = S at *
      generalize c k = d at *
      go_wp2_with (go_at_call 86; refine (after_any S d (by omega) (by omega) _).mono ?_; rintro e w' ⟨rfl, rfl⟩)
      go_round
      case rel => exact ⟨k + 1, by omega, by go_num, by rw [HS.out]; go_num⟩
      case measure => simp [intOf]; omega
    · obtain rfl : k = 16 := by omega
      go_wp2
      go_ret
      exact ⟨rfl, HB.out⟩
set_option maxHeartbeats 1000000 in
theorem free_no (c : Nat → Nat) (hc : ∀ i, c i < 256) (m : Nat) (hm : m < 16) (hf : 2 ^ (m + 1) ≤ fst c m + c m) (w : World) :
    Calls Tryd.prog 85 #[.agg (cnt c)] w fun e w' => e = .returned (.bool false) ∧ Below w.heap.size w w' := by
  have HC := Lib.hid (cell_new c w)
  have HB := Lib.hid (below_box w (.cells (cnt c) 71))
  have HCC := Lib.hid hc
  have HF := Lib.hid hf
  clear hc hf
  go_enter Tryd.func85, Tryd.ntmps85
  go_wp2
  generalize w.alloc (.cells (cnt c) 71) = w1 at *
  go_loop [3, 6] (fun s i => ∃ k : Nat, k ≤ m ∧ i = .int .i64 k ∧ s = .int .i64 (fst c k : Nat)) (fun _ i => 16 - (intOf i).toNat)
  case atStart => exact ⟨0, by omega, rfl, rfl⟩
  case round =>
    obtain ⟨k, hk, rfl, rfl⟩ := hrel
    have hb := fst_16 c HCC.out k (by omega)
    have hlt : k < 16 := by omega
    have x0 := HC.out k hlt
    have h1 := HCC.out k
    have HS := Lib.hid (show fst c (k + 1) = 2 * (fst c k + c k) from rfl)
    by_cases h2 : fst c k + c k < 2 ^ (k + 1)
    · have hne : k ≠ m := by
        rintro rfl
        have := HF.out
        omega
      have hq : ¬ wrap64 (wrap64 ((2 : Int) ^ (k + 1)) - 1) < (fst c k : Int) + (c k : Int) := by rw [← Int.natCast_add, ones_lt k hlt]; omega
      clear h2
      generalize fst c k = S at *
      generalize c k = d at *
      go_wp2_with (go_at_call 86; refine (after_any S d (by omega) (by omega) _).mono ?_; rintro e w' ⟨rfl, rfl⟩)
      go_round
      case rel => exact ⟨k + 1, by omega, by go_num, by rw [HS.out]; go_num⟩
      case measure => simp [intOf]; omega
    · have hq : wrap64 (wrap64 ((2 : Int) ^ (k + 1)) - 1) < (fst c k : Int) + (c k : Int) := by rw [← Int.natCast_add, ones_lt k hlt]; omega
      clear h2
      generalize fst c k = S at *
      generalize c k = d at *
      go_wp2
      go_ret
      exact ⟨rfl, HB.out⟩

/-- The cells of 256 answers. -/
def yes (m : Nat → Bool) : Array Value := ((List.range 256).map fun i => Value.bool (m i)).toArray
theorem yes_at (m : Nat → Bool) (i : Nat) (h : i < 256) : (yes m)[i]? = some (.bool (m i)) := by
  unfold yes
  rw [List.getElem?_toArray, List.getElem?_map, List.getElem?_range h]
  rfl
theorem yes_set (m : Nat → Bool) (p : Nat) : (yes m).setIfInBounds p (.bool true) = yes (fun i => if i = p then true else m i) := by
  have hs : ∀ m, (yes m).size = 256 := fun m => by simp [yes]
  apply Array.ext_getElem?
  intro i
  rw [Array.getElem?_setIfInBounds]
  by_cases hi : i < 256
  · rw [yes_at (fun i => if i = p then true else m i) i hi, hs]
    by_cases hp : p = i
    · subst hp; simp [hi]
    · have hp' : ¬ i = p := fun e => hp e.symm
      simp [hp, hp', yes_at m i hi]
  · have h1 : (yes (fun i => if i = p then true else m i))[i]? = none := by rw [Array.getElem?_eq_none]; rw [hs]; omega
    have h2 : (yes m)[i]? = none := by rw [Array.getElem?_eq_none]; rw [hs]; omega
    rw [h1, h2]
    by_cases hp : p = i
    · subst hp; simp [hs, hi]
    · simp [hp]
def Stood (g : Nat) (m : Nat → Bool) (w : World) : Prop := w.heap[g]? = some (.cells (yes m) 178 (0, 0))
theorem Stood.cell {g : Nat} {m : Nat → Bool} {w : World} (h : Stood g m w) {i : Nat} (hi : i < 256) : w.cell? ⟨g, i, none⟩ = some (.bool (m i)) := by
  rw [cell_of_row w g i _ 178 (0, 0) h, yes_at m i hi]
theorem Stood.free {g : Nat} {m : Nat → Bool} {w : World} (h : Stood g m w) (i : Nat) : w.frozen? ⟨g, i, none⟩ = false := frozen_of_row w g i _ 178 h
theorem Stood.set {g : Nat} {m : Nat → Bool} {w : World} (h : Stood g m w) (p : Nat) : Stood g (fun i => if i = p then true else m i) (w.setCell ⟨g, p, none⟩ (.bool true)) := by
  unfold Stood; rw [heap_setCell_same w g p _ 178 _ h, yes_set]
/-- Which symbols stood among the first ones. -/
def seen (y : List UInt8) (k : Nat) : Nat → Bool := fun i => (y.take k).any fun b => b.toNat == i
theorem seen_step (y : List UInt8) (k : Nat) (h : k < y.length) : (fun i => if i = y[k].toNat then true else seen y k i) = seen y (k + 1) := by
  funext i
  unfold seen
  rw [List.take_succ_eq_append_getElem h, List.any_append]
  by_cases e : i = y[k].toNat
  · simp [e]
  · have e' : (y[k].toNat == i) = false := by rw [beq_eq_false_iff_ne]; exact fun h => e h.symm
    simp [e, e']
theorem seen_mem (y : List UInt8) (k : Nat) (b : UInt8) : seen y k b.toNat = true ↔ b ∈ y.take k := by
  unfold seen
  rw [List.any_eq_true]
  constructor
  · rintro ⟨x, hx, e⟩
    rw [beq_iff_eq, UInt8.toNat_inj] at e
    exact e ▸ hx
  · exact fun h => ⟨b, h, by simp⟩
theorem zero78 (w : World) : (zeroValue 178).run Tryd.prog w = .ok (.agg (yes fun _ => false)) w := by
  have h : (Tryd.prog.info? 178).map (·.zero) = some (some (.agg (yes fun _ => false))) := by kernel_rfl
  cases hi : Tryd.prog.info? 178 with
  | none => rw [hi] at h; cases h
  | some i =>
    rw [hi] at h
    have hz : i.zero = some (.agg (yes fun _ => false)) := Option.some.inj h
    simp [zeroValue, typeInfo, hi, hz]
set_option maxHeartbeats 1000000 in
theorem single_any (s : ByteArray) (hs : s.size ≤ maxLen) (w : World) :
    Calls Tryd.prog 84 #[.string s] w fun e w' => e = .returned (.bool (decide s.data.toList.Nodup)) ∧ Below w.heap.size w w' := by
  unfold maxLen at hs
  obtain ⟨R, hR⟩ : ∃ R, R = decide s.data.toList.Nodup := ⟨_, rfl⟩
  rw [← hR]
  have HR := Lib.hid hR
  clear hR
  have hz := zero78 w
  go_enter Tryd.func84, Tryd.ntmps84
  go_wp2
  clear hz
  go_loopw [7] (fun i wr => ∃ k : Nat, k ≤ s.size ∧ i = .int .i64 k ∧ (s.data.toList.take k).Nodup ∧ Stood w.heap.size (seen s.data.toList k) wr ∧ Below w.heap.size w wr) (fun i _ => s.size - (intOf i).toNat)
  case atStart => exact ⟨0, by omega, rfl, by simp, heap_alloc_new _ _, below_box _ _⟩
  case round =>
    obtain ⟨k, hk, rfl, hn, hS, hB⟩ := hrel
    have HN := Lib.hid hn
    have HS := Lib.hid hS
    have HB := Lib.hid hB
    clear hn hS hB
    by_cases hlt : k < s.size
    · have hb := s[k].toNat_lt
      have x0 := HS.out.cell (i := s[k].toNat) (by omega)
      have x1 := HS.out.free s[k].toNat
      have hl : k < s.data.toList.length := by simpa using hlt
      have hg : s.data.toList[k] = s[k] := rfl
      cases hse : seen s.data.toList k s[k].toNat with
      | true =>
        have hm := (seen_mem _ _ _).1 hse
        have hnot : R = false := by
          rw [HR.out, decide_eq_false_iff_not]
          intro hnd
          obtain ⟨j, hj, e⟩ := List.mem_iff_getElem.1 hm
          rw [List.length_take] at hj
          rw [List.getElem_take] at e
          exact List.pairwise_iff_getElem.1 hnd j k (by omega) hl (by omega) (e.trans hg.symm)
        have HX := Lib.hid hnot
        rw [hse] at x0
        clear hm hnot hse hg
        go_wp2
        go_ret
        exact ⟨by rw [HX.out]; rfl, HB.out⟩
      | false =>
        have hm : s[k] ∉ s.data.toList.take k := fun h => by rw [(seen_mem _ _ _).2 h] at hse; cases hse
        have hn2 : (s.data.toList.take (k + 1)).Nodup := by
          rw [List.take_succ_eq_append_getElem hl, List.nodup_append]
          refine ⟨HN.out, by simp, ?_⟩
          intro a ha b hb e
          rw [List.mem_singleton] at hb
          rw [hb, hg] at e
          exact hm (e ▸ ha)
        have HN2 := Lib.hid hn2
        have hs2 := HS.out.set s[k].toNat
        have hstep := seen_step s.data.toList k hl
        rw [hg] at hstep
        rw [hstep] at hs2
        have HS2 := Lib.hid hs2
        have HB2 := Lib.hid (HB.out.setCell (p := ⟨w.heap.size, s[k].toNat, none⟩) (Nat.le_refl _) (.bool true))
        rw [hse] at x0
        clear hm hn2 hs2 hstep hse hg
        go_wp2
        go_roundw
        case rel => exact ⟨k + 1, by omega, by go_num, HN2.out, HS2.out, HB2.out⟩
        case measure => simp [intOf]; omega
    · obtain rfl : k = s.size := by omega
      have hR : R = true := by
        rw [HR.out, decide_eq_true_iff]
        have := HN.out
        rwa [List.take_of_length_le (by simp)] at this
      have HX := Lib.hid hR
      clear hR
      go_wp2
      go_ret
      exact ⟨by rw [HX.out]; rfl, HB.out⟩
end Go.Proofs.YtfohgocdabgbgaaDoor
