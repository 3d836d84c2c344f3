/- Walks of the document's reader: Rest, Marker. -/
import Derived.Test.YtialkpfjllhfkaaRefRd
namespace Go.Proofs.Ytialkpfjllhfkaa
open Go.RowKit

/-- The document's reader lies in this block. -/
def Box (k : Nat) (s : ByteArray) (a : Nat) (hv : Value) (w : World) : Prop := w.heap[k]? = some (.cells #[.string s, .int .i64 a, hv] 45 (0, 0))
section
variable {k : Nat} {s : ByteArray} {a : Nat} {hv : Value} {w w' : World}
theorem Box.text (h : Box k s a hv w) : w.cell? ⟨k, 0, none⟩ = some (.string s) := by unfold Box at h; simp [World.cell?, h]
theorem Box.at (h : Box k s a hv w) : w.cell? ⟨k, 1, none⟩ = some (.int .i64 a) := by unfold Box at h; simp [World.cell?, h]
theorem Box.held (h : Box k s a hv w) : w.cell? ⟨k, 2, none⟩ = some hv := by unfold Box at h; simp [World.cell?, h]
theorem Box.free (h : Box k s a hv w) (o : Nat) : w.frozen? ⟨k, o, none⟩ = false := by unfold Box at h; simp [World.frozen?, h]
theorem Box.lt (h : Box k s a hv w) : k < w.heap.size := (Array.getElem?_eq_some_iff.1 h).1
theorem Box.on (h : Box k s a hv w) (hb : Below w.heap.size w w') : Box k s a hv w' := (hb.block k h.lt).trans h
theorem Box.but {j : Nat} (h : Box k s a hv w) (hb : But j w w') (hne : k ≠ j) : Box k s a hv w' := (hb.block k hne h.lt).trans h
theorem Box.oth (h : Box k s a hv w) (ho : Lib.OthersKept 3 none w w') : Box k s a hv w' := ho k _ h (by simp) (fun c fz => by simp)
theorem Box.set (h : Box k s a hv w) (s' : ByteArray) (a' : Nat) (x : Int) (hx : x = a') (hv' : Value) : Box k s' a' hv' (((w.setCell ⟨k, 0, none⟩ (.string s')).setCell ⟨k, 1, none⟩ (.int .i64 x)).setCell ⟨k, 2, none⟩ hv') := by
  subst hx
  unfold Box at h ⊢; simp [World.setCell, Array.getElem?_modify, h]
theorem Box.setHeld (h : Box k s a hv w) (hv' : Value) : Box k s a hv' (w.setCell ⟨k, 2, none⟩ hv') := by
  unfold Box at h ⊢; simp [World.setCell, Array.getElem?_modify, h]
theorem Box.setBoth (h : Box k s a hv w) (a' : Nat) (x : Int) (hx : x = a') (hv' : Value) : Box k s a' hv' ((w.setCell ⟨k, 2, none⟩ hv').setCell ⟨k, 1, none⟩ (.int .i64 x)) := by
  subst hx
  unfold Box at h ⊢; simp [World.setCell, Array.getElem?_modify, h]
end
theorem below_set3 {B k : Nat} {a w : World} (h : Below B a w) (hk : B ≤ k) (x y z : Value) : Below B a (((w.setCell ⟨k, 0, none⟩ x).setCell ⟨k, 1, none⟩ y).setCell ⟨k, 2, none⟩ z) :=
  ((h.setCell (p := ⟨k, 0, none⟩) hk _).setCell (p := ⟨k, 1, none⟩) hk _).setCell (p := ⟨k, 2, none⟩) hk _
theorem but_set3 {k : Nat} {w : World} (x y z : Value) : But k w (((w.setCell ⟨k, 0, none⟩ x).setCell ⟨k, 1, none⟩ y).setCell ⟨k, 2, none⟩ z) :=
  ((((But.refl k w).setCell 0 x).setCell 1 y).setCell 2 z)
theorem val_take_succ (H : List Bool) (i : Nat) (h : i < H.length) : val (H.take (i + 1)) = val (H.take i) * 2 + H[i].toNat := by
  rw [List.take_succ_eq_append_getElem h, val_snoc]

set_option maxHeartbeats 1000000 in
theorem Rest_any (s : ByteArray) (a : Nat) (p : Option Addr) (c : Nat) (H : List Bool) (w : World) (hv : View (.slice p H.length c) H w) (hH : H.length < 8) :
    Calls Try.prog 20 #[.agg #[.string s, .int .i64 a, .slice p H.length c]] w fun e w' => e = .returned (.tuple #[.int .i64 H.length, .int .i64 (val H)]) ∧ Below w.heap.size w w' := by
  have HB : Hid (Below w.heap.size w (w.alloc (.cells #[.string s, .int .i64 a, .slice p H.length c] 45))) := (Below.refl _ _).alloc (Nat.le_refl _) _
  have HX : Hid (Box w.heap.size s a (.slice p H.length c) (w.alloc (.cells #[.string s, .int .i64 a, .slice p H.length c] 45))) := heap_alloc_new _ _
  have HV := Lib.hid (hv.on HB.out)
  clear hv
  go_enter Try.func20, Try.ntmps20
  go_wp2
  generalize w.alloc (.cells #[.string s, .int .i64 a, .slice p H.length c] 45) = w1 at *
  have c2 := HX.out.held
  go_loop [4, 5] (fun v i => ∃ k : Nat, i = .int .i64 k ∧ k ≤ H.length ∧ v = .int .i64 (val (H.take k))) (fun _ i => H.length - (intOf i).toNat)
  case atStart => exact ⟨0, rfl, Nat.zero_le _, rfl⟩
  case round =>
    obtain ⟨k, rfl, hk, rfl⟩ := hrel
    by_cases hlt : k < H.length
    · obtain ⟨b, o, rfl, hcell, _⟩ := HV.out.cell hlt
      have hlv := val_lt (H.take k)
      have hpw : 2 ^ (H.take k).length ≤ 2 ^ 7 := Nat.pow_le_pow_right (by omega) (by rw [List.length_take]; omega)
      have HT := Lib.hid (val_take_succ H k hlt)
      have hb1 : H[k].toNat ≤ 1 := by cases H[k] <;> simp
      generalize val (H.take k) = x at *
      generalize H[k].toNat = y at *
      have hx : x < 128 := by omega
      go_wp2
      go_round
      case rel => exact ⟨k + 1, by go_num, by omega, by rw [HT.out]; go_num⟩
      case measure => simp [intOf]; omega
    · obtain rfl : k = H.length := by omega
      go_wp2
      go_ret2
      exact ⟨rfl, HB.out⟩

set_option maxHeartbeats 1000000 in
theorem rMarker_any (s : ByteArray) (a : Nat) (hv : Value) (hs : s.size ≤ 4000) (ha : a ≤ s.size) (w : World) :
    Calls Try.prog 21 #[.agg #[.string s, .int .i64 a, hv]] w fun e w' => e = .returned (.tuple #[.int .i64 (mark s.data.toList a).1, .int .i64 (mark s.data.toList a).2]) ∧ Below w.heap.size w w' := by
  obtain ⟨M, hM⟩ : ∃ M, M = mark s.data.toList a := ⟨_, rfl⟩
  have HM := Lib.hid hM
  rw [← hM]
  clear hM
  have HB : Hid (Below w.heap.size w (w.alloc (.cells #[.string s, .int .i64 a, hv] 45))) := (Below.refl _ _).alloc (Nat.le_refl _) _
  have HX : Hid (Box w.heap.size s a hv (w.alloc (.cells #[.string s, .int .i64 a, hv] 45))) := heap_alloc_new _ _
  go_enter Try.func21, Try.ntmps21
  go_wp2
  generalize w.alloc (.cells #[.string s, .int .i64 a, hv] 45) = w1 at *
  have c0 := HX.out.text
  have c1 := HX.out.at
  go_loop [4] (fun i => ∃ j : Nat, a + j ≤ s.size ∧ j + ffs (s.data.toList.drop (a + j)) = ffs (s.data.toList.drop a) ∧ i = .int .i64 j) (fun i => s.size - (intOf i).toNat)
  case atStart => exact ⟨0, by omega, by simp, rfl⟩
  case round =>
    obtain ⟨j, hj, hf, rfl⟩ := hrel
    have hf2 := ffs_at s.data.toList (a + j)
    by_cases h1 : a + j < s.size
    · have e1 := bytes_at s (a + j) h1
      have hb := s[a + j].toNat_lt
      by_cases h2 : s[a + j].toNat = 255
      · rw [e1, if_pos (by rw [(toNat_255 _).2 h2])] at hf2
        have HF := Lib.hid (show (j + 1) + ffs (s.data.toList.drop (a + (j + 1))) = ffs (s.data.toList.drop a) by rw [← hf, hf2]; simp only [Nat.add_assoc]; omega)
        clear e1 hf hf2
        go_wp2
        go_round
        case rel => exact ⟨j + 1, by omega, HF.out, by go_num⟩
        case measure => simp [intOf]; omega
      · rw [e1, if_neg (by simp; exact fun h => h2 ((toNat_255 _).1 h))] at hf2
        rw [hf2, Nat.add_zero] at hf
        have hm : M = if j = 0 ∨ s[a + j] = 0 then (0, 0) else (s[a + j].toNat, j + 1) := by
          rw [HM.out]; unfold mark; rw [← hf, e1]
        have HY0 := Lib.hid hm
        clear e1 hf hf2 hm
        by_cases h3 : j = 0
        · have HY : Hid (M = (0, 0)) := by unfold Hid; rw [HY0.out, if_pos (.inl h3)]
          have q1 : ((j : Int) == 0) = true := by rw [beq_iff_eq]; omega
          clear h3
          go_wp2
          go_ret2
          exact ⟨by rw [HY.out]; rfl, HB.out⟩
        · have q1 : ((j : Int) == 0) = false := by rw [beq_eq_false_iff_ne]; omega
          have q2 : ((a : Int) + (j : Int) == (s.size : Int)) = false := by rw [beq_eq_false_iff_ne]; omega
          by_cases h4 : s[a + j].toNat = 0
          · have HY : Hid (M = (0, 0)) := by unfold Hid; rw [HY0.out, if_pos (.inr ((toNat_0 _).2 h4))]
            go_wp2
            go_ret2
            exact ⟨by rw [HY.out]; rfl, HB.out⟩
          · have HY : Hid (M = (s[a + j].toNat, j + 1)) := by unfold Hid; rw [HY0.out, if_neg (fun h => h.elim h3 fun h => h4 ((toNat_0 _).1 h))]
            have q3 : ((s[a + j].toNat : Int) == 0) = false := by rw [beq_eq_false_iff_ne]; omega
            go_wp2
            go_ret2
            exact ⟨by rw [HY.out]; exact ret_ints rfl (by omega), HB.out⟩
    · rw [bytes_none s (a + j) (by omega), if_neg (by simp)] at hf2
      have HY : Hid (M = (0, 0)) := by unfold Hid; rw [HM.out]; unfold mark; rw [← hf, hf2, Nat.add_zero, bytes_none s (a + j) (by omega)]
      clear hf hf2
      by_cases h3 : j = 0
      · have q1 : ((j : Int) == 0) = true := by rw [beq_iff_eq]; omega
        clear h3
        go_wp2
        go_ret2
        exact ⟨by rw [HY.out]; rfl, HB.out⟩
      · have q1 : ((j : Int) == 0) = false := by rw [beq_eq_false_iff_ne]; omega
        have q2 : ((a : Int) + (j : Int) == (s.size : Int)) = true := by rw [beq_iff_eq]; omega
        go_wp2
        go_ret2
        exact ⟨by rw [HY.out]; rfl, HB.out⟩
end Go.Proofs.Ytialkpfjllhfkaa
