/- Whether an id stands ahead: IndexFunc, ContainsFunc. -/
import Derived.Test.YtfohgocdabgbgaaDoorSRow
import Derived.Test.YtfohgocdabgbgaaDoorSClo
namespace Go.Proofs.YtfohgocdabgbgaaDoor
open Go.RowKit

abbrev PT := Int × Int × Int × Int
abbrev KT := Int × Int × Int
def cellsP (x : PT) : Array Value := #[.int .i64 x.1, .int .i64 x.2.1, .int .i64 x.2.2.1, .int .i64 x.2.2.2]
def cellsK (x : KT) : Array Value := #[.int .i64 x.1, .int .i64 x.2.1, .int .i64 x.2.2]
theorem cellsP_size (x : PT) : (cellsP x).size = 4 := rfl
theorem cellsK_size (x : KT) : (cellsK x).size = 3 := rfl
theorem cellsP_one (x : PT) : (cellsP x).all (·.oneCell') = true := by
  unfold cellsP
  simp
  exact ⟨rfl, rfl, rfl, rfl⟩
theorem cellsK_one (x : KT) : (cellsK x).all (·.oneCell') = true := by
  unfold cellsK
  simp
  exact ⟨rfl, rfl, rfl⟩
theorem info80 : (Tryd.prog.info? 80).map (fun i => (i.zero, i.size, i.bytes)) = some (some (.agg (cellsP (0, 0, 0, 0))), 4, 32) := by kernel_rfl
theorem info117 : (Tryd.prog.info? 117).map (fun i => (i.zero, i.size, i.bytes)) = some (some (.agg (cellsK (0, 0, 0))), 3, 24) := by kernel_rfl
theorem part_cells {b o : Nat} {l : List PT} {w : World} (h : ∀ j (h : j < l.length) i, i < 4 → w.cell? ⟨b, o + (j * 4 + i), none⟩ = (cellsP l[j])[i]?) {j : Nat} (hj : j < l.length) :
    w.cell? ⟨b, o + j * 4, none⟩ = some (.int .i64 l[j].1) ∧ w.cell? ⟨b, o + j * 4 + 1, none⟩ = some (.int .i64 l[j].2.1) ∧ w.cell? ⟨b, o + j * 4 + 2, none⟩ = some (.int .i64 l[j].2.2.1) ∧ w.cell? ⟨b, o + j * 4 + 3, none⟩ = some (.int .i64 l[j].2.2.2) :=
  ⟨h j hj 0 (by omega), h j hj 1 (by omega), h j hj 2 (by omega), h j hj 3 (by omega)⟩
theorem pick_cells {b o : Nat} {l : List KT} {w : World} (h : ∀ j (h : j < l.length) i, i < 3 → w.cell? ⟨b, o + (j * 3 + i), none⟩ = (cellsK l[j])[i]?) {j : Nat} (hj : j < l.length) :
    w.cell? ⟨b, o + j * 3, none⟩ = some (.int .i64 l[j].1) ∧ w.cell? ⟨b, o + j * 3 + 1, none⟩ = some (.int .i64 l[j].2.1) ∧ w.cell? ⟨b, o + j * 3 + 2, none⟩ = some (.int .i64 l[j].2.2) :=
  ⟨h j hj 0 (by omega), h j hj 1 (by omega), h j hj 2 (by omega)⟩

/-- Whether an id is among the first ones. -/
def aheadP (l : List PT) (n : Int) : Bool := l.any fun q => q.1 == n
def aheadK (l : List KT) (n : Int) : Bool := l.any fun q => q.1 == n
set_option maxHeartbeats 1000000 in
theorem IndexP (v : Value) (l : List PT) (n : Int) (g : Nat) (w : World) (hl : l.length ≤ 1000) (hv : RowV 4 cellsP v l w) (hg : w.cell? ⟨g, 0, none⟩ = some (.int .i64 n)) :
    Calls Tryd.prog 82 #[v, .func (.func 68) #[] #[.pointer (some ⟨g, 0, none⟩)]] w fun e w' => ∃ i : Int, e = .returned (.int .i64 i) ∧ decide (0 ≤ i) = aheadP l n ∧ Below w.heap.size w w' := by
  obtain ⟨p, m, c, rfl, hm⟩ := hv.shape
  have HV := Lib.hid hv
  have HM := Lib.hid hm
  have hm2 : m ≤ 1000 := by rw [show m = l.length from hm]; exact hl
  have HG := Lib.hid hg
  clear hv hm hg hl
  go_enter Tryd.func82, Tryd.ntmps82
  go_wp2
  go_loopw [8] (fun i wr => ∃ j : Nat, i = .int .i64 j ∧ j ≤ m ∧ aheadP (l.take j) n = false ∧ Below w.heap.size w wr) (fun i _ => m - (intOf i).toNat)
  case atStart => exact ⟨0, rfl, Nat.zero_le _, rfl, Below.refl _ _⟩
  case round =>
    obtain ⟨j, rfl, hj, ha, hb⟩ := hrel
    have HA := Lib.hid ha
    have HB := Lib.hid hb
    clear ha hb
    by_cases hlt : j < m
    · have hjl : j < l.length := by rw [← show m = l.length from HM.out]; exact hlt
      obtain ⟨b, o, c', hvv, hbl, hc⟩ := (HV.out.on cellsP_size HB.out).lies (by omega)
      simp only [Value.slice.injEq] at hvv
      obtain ⟨rfl, hy1, hy2⟩ := hvv
      clear hy1 hy2
      obtain ⟨x0, x1, x2, x3⟩ := part_cells hc hjl
      have HS := Lib.hid (same_part l[j].1 l[j].2.1 l[j].2.2.1 l[j].2.2.2 n g wr (by rw [HB.out.cell (p := ⟨g, 0, none⟩) (World.block_lt_of_cell? w _ HG.out)]; exact HG.out))
      have HT : Hid (aheadP (l.take (j + 1)) n = (l[j].1 == n)) := by
        unfold Hid aheadP
        have := HA.out
        unfold aheadP at this
        rw [List.take_succ_eq_append_getElem hjl, List.any_append, this]
        simp
      have HE : Hid ((l[j].1 == n) = true → aheadP l n = true) := by
        intro h
        exact List.any_eq_true.2 ⟨l[j], List.getElem_mem hjl, h⟩
      generalize l[j].1 = a0 at *
      generalize l[j].2.1 = a1 at *
      generalize l[j].2.2.1 = a2 at *
      generalize l[j].2.2.2 = a3 at *
      clear hc hbl hjl
      by_cases he : (a0 == n) = true
      · rw [he] at HS
        have HEE := Lib.hid (HE.out he)
        clear he
        go_wp2_with (go_at_call 68; refine HS.out.mono ?_; rintro e w2 ⟨rfl, hb⟩; have HB2 := Lib.hid (HB.out.trans (hb.mono HB.out.size)); clear hb)
        go_ret
        exact ⟨_, rfl, by rw [HEE.out]; exact decide_eq_true (by omega), HB2.out⟩
      · have he' : (a0 == n) = false := by simpa using he
        rw [he'] at HS HT
        clear he he'
        go_wp2_with (go_at_call 68; refine HS.out.mono ?_; rintro e w2 ⟨rfl, hb⟩; have HB2 := Lib.hid (HB.out.trans (hb.mono HB.out.size)); clear hb)
        go_roundw
        case rel => exact ⟨j + 1, by go_num, by omega, HT.out, HB2.out⟩
        case measure => simp [intOf]; omega
    · obtain rfl : j = m := by omega
      have HF : Hid (aheadP l n = false) := by
        have := HA.out
        rwa [show j = l.length from HM.out, List.take_length] at this
      go_wp2
      go_ret
      exact ⟨_, rfl, by rw [HF.out]; rfl, HB.out⟩
set_option maxHeartbeats 1000000 in
theorem IndexK (v : Value) (l : List KT) (n : Int) (g : Nat) (w : World) (hl : l.length ≤ 1000) (hv : RowV 3 cellsK v l w) (hg : w.cell? ⟨g, 0, none⟩ = some (.int .i64 n)) :
    Calls Tryd.prog 79 #[v, .func (.func 62) #[] #[.pointer (some ⟨g, 0, none⟩)]] w fun e w' => ∃ i : Int, e = .returned (.int .i64 i) ∧ decide (0 ≤ i) = aheadK l n ∧ Below w.heap.size w w' := by
  obtain ⟨p, m, c, rfl, hm⟩ := hv.shape
  have HV := Lib.hid hv
  have HM := Lib.hid hm
  have hm2 : m ≤ 1000 := by rw [show m = l.length from hm]; exact hl
  have HG := Lib.hid hg
  clear hv hm hg hl
  go_enter Tryd.func79, Tryd.ntmps79
  go_wp2
  go_loopw [8] (fun i wr => ∃ j : Nat, i = .int .i64 j ∧ j ≤ m ∧ aheadK (l.take j) n = false ∧ Below w.heap.size w wr) (fun i _ => m - (intOf i).toNat)
  case atStart => exact ⟨0, rfl, Nat.zero_le _, rfl, Below.refl _ _⟩
  case round =>
    obtain ⟨j, rfl, hj, ha, hb⟩ := hrel
    have HA := Lib.hid ha
    have HB := Lib.hid hb
    clear ha hb
    by_cases hlt : j < m
    · have hjl : j < l.length := by rw [← show m = l.length from HM.out]; exact hlt
      obtain ⟨b, o, c', hvv, hbl, hc⟩ := (HV.out.on cellsK_size HB.out).lies (by omega)
      simp only [Value.slice.injEq] at hvv
      obtain ⟨rfl, hy1, hy2⟩ := hvv
      clear hy1 hy2
      obtain ⟨x0, x1, x2⟩ := pick_cells hc hjl
      have HS := Lib.hid (same_pick l[j].1 l[j].2.1 l[j].2.2 n g wr (by rw [HB.out.cell (p := ⟨g, 0, none⟩) (World.block_lt_of_cell? w _ HG.out)]; exact HG.out))
      have HT : Hid (aheadK (l.take (j + 1)) n = (l[j].1 == n)) := by
        unfold Hid aheadK
        have := HA.out
        unfold aheadK at this
        rw [List.take_succ_eq_append_getElem hjl, List.any_append, this]
        simp
      have HE : Hid ((l[j].1 == n) = true → aheadK l n = true) := by
        intro h
        exact List.any_eq_true.2 ⟨l[j], List.getElem_mem hjl, h⟩
      generalize l[j].1 = a0 at *
      generalize l[j].2.1 = a1 at *
      generalize l[j].2.2 = a2 at *
      clear hc hbl hjl
      by_cases he : (a0 == n) = true
      · rw [he] at HS
        have HEE := Lib.hid (HE.out he)
        clear he
        go_wp2_with (go_at_call 62; refine HS.out.mono ?_; rintro e w2 ⟨rfl, hb⟩; have HB2 := Lib.hid (HB.out.trans (hb.mono HB.out.size)); clear hb)
        go_ret
        exact ⟨_, rfl, by rw [HEE.out]; exact decide_eq_true (by omega), HB2.out⟩
      · have he' : (a0 == n) = false := by simpa using he
        rw [he'] at HS HT
        clear he he'
        go_wp2_with (go_at_call 62; refine HS.out.mono ?_; rintro e w2 ⟨rfl, hb⟩; have HB2 := Lib.hid (HB.out.trans (hb.mono HB.out.size)); clear hb)
        go_roundw
        case rel => exact ⟨j + 1, by go_num, by omega, HT.out, HB2.out⟩
        case measure => simp [intOf]; omega
    · obtain rfl : j = m := by omega
      have HF : Hid (aheadK l n = false) := by
        have := HA.out
        rwa [show j = l.length from HM.out, List.take_length] at this
      go_wp2
      go_ret
      exact ⟨_, rfl, by rw [HF.out]; rfl, HB.out⟩
set_option maxHeartbeats 1000000 in
theorem ContainsP (v : Value) (l : List PT) (n : Int) (g : Nat) (w : World) (hl : l.length ≤ 1000) (hv : RowV 4 cellsP v l w) (hg : w.cell? ⟨g, 0, none⟩ = some (.int .i64 n)) :
    Calls Tryd.prog 67 #[v, .func (.func 68) #[] #[.pointer (some ⟨g, 0, none⟩)]] w fun e w' => e = .returned (.bool (aheadP l n)) ∧ Below w.heap.size w w' := by
  have HI := Lib.hid (IndexP v l n g w hl hv hg)
  clear hv hg hl
  go_enter Tryd.func67, Tryd.ntmps67
  go_wp2_with (go_at_call 82; refine HI.out.mono ?_; rintro e w2 ⟨i, rfl, hi, hb⟩; have HB2 := Lib.hid hb; have HJ := Lib.hid hi; clear hb hi)
  go_ret
  exact ⟨by rw [← HJ.out]; rfl, HB2.out⟩
set_option maxHeartbeats 1000000 in
theorem ContainsK (v : Value) (l : List KT) (n : Int) (g : Nat) (w : World) (hl : l.length ≤ 1000) (hv : RowV 3 cellsK v l w) (hg : w.cell? ⟨g, 0, none⟩ = some (.int .i64 n)) :
    Calls Tryd.prog 61 #[v, .func (.func 62) #[] #[.pointer (some ⟨g, 0, none⟩)]] w fun e w' => e = .returned (.bool (aheadK l n)) ∧ Below w.heap.size w w' := by
  have HI := Lib.hid (IndexK v l n g w hl hv hg)
  clear hv hg hl
  go_enter Tryd.func61, Tryd.ntmps61
  go_wp2_with (go_at_call 79; refine HI.out.mono ?_; rintro e w2 ⟨i, rfl, hi, hb⟩; have HB2 := Lib.hid hb; have HJ := Lib.hid hi; clear hb hi)
  go_ret
  exact ⟨by rw [← HJ.out]; rfl, HB2.out⟩
end Go.Proofs.YtfohgocdabgbgaaDoor
