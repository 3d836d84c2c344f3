/- Walks of the document's writer: Put, Mark. -/
import Derived.Test.YtialkpfjllhfkaaRefPut
import Derived.Deep.RegionWith
import Derived.Deep.DeepCutAuto
namespace Go.Proofs.Ytialkpfjllhfkaa
open Go.RowKit

/-- A slice of one byte as a string, wherever it lies. -/
theorem conv_at (w : World) (k : Nat) (z : Int) (b : UInt8) (hz : z = b.toNat) (h : w.heap[k]? = some (.cells #[.int .u8 z] 5 (0, 0))) : (convert 56 9 (.slice (some ⟨k, 0, none⟩) 1 1)).run Try.prog w = .ok (.string ⟨#[b]⟩) w := by
  subst hz
  refine run_convert_bytes_back _ 56 9 5 ⟨k, 0, none⟩ 1 [b] Try.underlying56 Try.underlying5 Try.underlying9 fun j hj => ?_
  obtain rfl : j = 0 := by simpa using hj
  show w.cell? ⟨k, 0, none⟩ = _
  rw [cell_of_row _ k 0 _ 5 (0, 0) h]
  rfl
theorem f34_name : (Try.f34.name == "runtime.NumGoroutine") = false := by kernel_rfl
theorem f34_body : Try.f34.body.isNone = false := by kernel_rfl
set_option maxHeartbeats 1000000 in
theorem rPut_large (d : ByteArray) (p : Option Addr) (m c : Nat) (v : Int) (n : Nat) (hn : n ≤ 16) (hv : v < 0 ∨ ((2 ^ n : Nat) : Int) ≤ v) (w : World) :
    Calls Try.prog 22 #[.agg #[.string d, .slice p m c], .int .i64 v, .int .i64 n] w fun e w' => e = .returned (.tuple #[.agg #[.string d, .slice p m c], .int .i64 11]) ∧ Below w.heap.size w w' := by
  have HVV := Lib.hid hv
  clear hv
  have q1 : decide ((n : Int) < 0) = false := decide_eq_false (by omega)
  have q2 : decide (16 < (n : Int)) = false := decide_eq_false (by omega)
  have hp16 : 2 ^ n ≤ 2 ^ 16 := Nat.pow_le_pow_right (by omega) hn
  go_enter Try.func22, Try.ntmps22
  go_wp2
  go_loop [8, 9] (fun x i => ∃ k : Nat, i = .int .i64 k ∧ k ≤ n ∧ x = .int .i64 (2 ^ k : Nat)) (fun _ i => n - (intOf i).toNat)
  case atStart => exact ⟨0, rfl, Nat.zero_le _, rfl⟩
  case round =>
    obtain ⟨k, rfl, hk, rfl⟩ := hrel
    by_cases hlt : k < n
    · have hq : 2 ^ k ≤ 2 ^ 16 := Nat.pow_le_pow_right (by omega) (by omega)
      have HQ := Lib.hid (show 2 ^ k * 2 = 2 ^ (k + 1) by rw [Nat.pow_succ])
      generalize 2 ^ k = q at hq HQ
      go_wp2
      go_round
      case rel => exact ⟨k + 1, by go_num, by omega, by rw [← HQ.out]; go_num⟩
      case measure => simp [intOf]; omega
    · obtain rfl : k = n := by omega
      have hv := HVV.out
      generalize 2 ^ k = q at *
      by_cases h1 : v < 0
      · go_wp2
        refine bodyPost_ret (v := .tuple #[.agg #[.string d, .slice p m c], .int .i64 11]) (by simp [results, Try.results22, go_sem]) rfl ⟨rfl, ?_⟩
        exact ((Below.refl _ _).alloc (Nat.le_refl _) _).alloc (by simp) _
      · have h2 : (q : Int) ≤ v := by omega
        clear hv
        go_wp2
        refine bodyPost_ret (v := .tuple #[.agg #[.string d, .slice p m c], .int .i64 11]) (by simp [results, Try.results22, go_sem]) rfl ⟨rfl, ?_⟩
        exact ((Below.refl _ _).alloc (Nat.le_refl _) _).alloc (by simp) _

set_option maxHeartbeats 2000000 in
theorem rPut_yes (d : ByteArray) (p : Option Addr) (c : Nat) (L : List Bool) (v n : Nat) (hn : n ≤ 16) (hv : v < 2 ^ n) (w : World) (hw : View (.slice p L.length c) L w) (hL : L.length ≤ 100000) :
    Calls Try.prog 22 #[.agg #[.string d, .slice p L.length c], .int .i64 v, .int .i64 n] w fun e w' => ∃ p' c', e = .returned (.tuple #[.agg #[.string d, .slice p' (L ++ bitsOf v n).length c'], .int .i64 0]) ∧ View (.slice p' (L ++ bitsOf v n).length c') (L ++ bitsOf v n) w' ∧ Below w.heap.size w w' := by
  have q1 : decide ((n : Int) < 0) = false := decide_eq_false (by omega)
  have q2 : decide (16 < (n : Int)) = false := decide_eq_false (by omega)
  have hp16 : 2 ^ n ≤ 2 ^ 16 := Nat.pow_le_pow_right (by omega) hn
  have HB0 : Hid (Below w.heap.size w ((w.alloc (.cells #[.string d, .slice p L.length c] 50)).alloc (.cells #[.string ⟨#[]⟩, .slice none 0 0] 50))) := ((Below.refl _ _).alloc (Nat.le_refl _) _).alloc (by simp) _
  have HX0 : Hid (BoxW w.heap.size d (.slice p L.length c) ((w.alloc (.cells #[.string d, .slice p L.length c] 50)).alloc (.cells #[.string ⟨#[]⟩, .slice none 0 0] 50))) :=
    (Below.heap_alloc _ _ _ (by simp)).trans (heap_alloc_new _ _)
  have HZ0 : Hid (BoxW (w.heap.size + 1) ⟨#[]⟩ (.slice none 0 0) ((w.alloc (.cells #[.string d, .slice p L.length c] 50)).alloc (.cells #[.string ⟨#[]⟩, .slice none 0 0] 50))) := by
    have := heap_alloc_new (w.alloc (.cells #[.string d, .slice p L.length c] 50)) (.cells #[.string ⟨#[]⟩, .slice none 0 0] 50)
    have e : (w.alloc (.cells #[.string d, .slice p L.length c] 50)).heap.size = w.heap.size + 1 := by simp
    rw [e] at this
    exact this
  have HV0 := Lib.hid (hw.on HB0.out)
  have HSP := Lib.hid (fun W => Split_any v n hn hv W)
  have hvI : ¬ ((2 ^ n : Nat) : Int) ≤ (v : Int) := by omega
  have HVI := Lib.hid hvI
  clear hw hv hvI
  go_enter Try.func22, Try.ntmps22
  go_wp2
  go_loop [8, 9] (fun x i => ∃ k : Nat, i = .int .i64 k ∧ k ≤ n ∧ x = .int .i64 (2 ^ k : Nat)) (fun _ i => n - (intOf i).toNat)
  case atStart => exact ⟨0, rfl, Nat.zero_le _, rfl⟩
  case round =>
    obtain ⟨k, rfl, hk, rfl⟩ := hrel
    by_cases hlt : k < n
    · have hq : 2 ^ k ≤ 2 ^ 16 := Nat.pow_le_pow_right (by omega) (by omega)
      have HQ := Lib.hid (show 2 ^ k * 2 = 2 ^ (k + 1) by rw [Nat.pow_succ])
      generalize 2 ^ k = q at hq HQ
      go_wp2
      go_round
      case rel => exact ⟨k + 1, by go_num, by omega, by rw [← HQ.out]; go_num⟩
      case measure => simp [intOf]; omega
    · obtain rfl : k = n := by omega
      have hvI := HVI.out
      generalize 2 ^ k = q at *
      clear HVI
      go_wp2_with (at_builtin; refine wpList_appV rfl _ _ rfl w.heap.size (.slice none 0 0) (.slice p L.length c) [] L rfl rfl (World.ownsRow_nil _ _ _ _) HV0.out (by simp; omega) (by simp; omega) ?_)
      intro v1 w1 o1 b1 k1
      obtain ⟨p1, c1, rfl⟩ := o1.len
      have HO1 := Lib.hid o1
      have HB1 := Lib.hid (HB0.out.trans b1)
      have HX1 := Lib.hid (HX0.out.oth k1 (by decide) (by simp))
      have HZ1 := Lib.hid (HZ0.out.oth k1 (by decide) (by simp))
      have hs1 := HB1.out.size
      have x0 := HX1.out.done
      clear o1 b1 k1
      go_wp2_with fail
      have hl16 : (bitsOf v k).length = k := bitsOf_length v k
      have HL16 := Lib.hid hl16
      clear hl16
      have HSP1 := Lib.hid (HSP.out w1.drew)
      go_region_law (first
        | (refine step_call (by rfl) 34 Try.f34 Try.func34 f34_name f34_body #[.tmp 40, .tmp 41] #[3, 3] (by rfl) #[.int .i64 v, .int .i64 k] (by simp [Act.eval, Act.put]) _ HSP1.out ?_
           rintro e w2 ⟨u2, rfl, o2, b2⟩
           refine ⟨u2, rfl, ?_⟩
           obtain ⟨p2, c2, rfl⟩ := o2.len
           have hb12 : Below w1.heap.size w1 w2 := ⟨b2.os, b2.tape, b2.output, b2.size, b2.block⟩
           have HO2 := Lib.hid (HO1.out.below hb12)
           have HV2 := Lib.hid o2.view
           have HX2 := Lib.hid (HX1.out.on hb12)
           have HZ2 := Lib.hid (HZ1.out.on hb12)
           have HB2 := Lib.hid (HB1.out.trans (hb12.mono hs1))
           have hs2 := HB2.out.size
           have xx0 := HX2.out.done
           clear o2 b2 hb12)
        | (refine step_appV (by rfl) _ _ (by rfl) w.heap.size (.slice p1 L.length c1) (.slice p2 (bitsOf v k).length c2) L (bitsOf v k) (by rfl) (by rfl) HO2.out HV2.out (by rw [HL16.out]; omega) hs2 ?_
           intro v3 w3 o3 b3 k3
           obtain ⟨p3, c3, rfl⟩ := o3.len
           have HO3 := Lib.hid o3
           have HX3 := Lib.hid (HX2.out.oth k3 (by decide) (by simp))
           have HZ3 := Lib.hid (HZ2.out.oth k3 (by decide) (by simp))
           have HB3 := Lib.hid (HB2.out.trans b3)
           have xy0 := HX3.out.done
           have z0 := HZ3.out.done
           have z1 := HZ3.out.bits
           have zf0 := HZ3.out.free 0
           have zf1 := HZ3.out.free 1
           clear o3 b3 k3))
      all_goals
        have HLA := Lib.hid (show (L ++ bitsOf v k).length = L.length + (bitsOf v k).length from List.length_append)
        have hvw := HO3.out.view
        rw [HLA.out] at hvw
        have hbx := HZ3.out.set d (.slice p3 (L.length + (bitsOf v k).length) c3)
        have hbl := below_set2 HB3.out (Nat.le_succ _) (.string d) (.slice p3 (L.length + (bitsOf v k).length) c3)
        have hbt : But (w.heap.size + 1) w3 ((w3.setCell ⟨w.heap.size + 1, 0, none⟩ (.string d)).setCell ⟨w.heap.size + 1, 1, none⟩ (.slice p3 (L.length + (bitsOf v k).length) c3)) := but_set2 _ _
        have hv5 := hvw.but hbt HZ3.out (by decide)
        generalize (w3.setCell ⟨w.heap.size + 1, 0, none⟩ (.string d)).setCell ⟨w.heap.size + 1, 1, none⟩ (.slice p3 (L.length + (bitsOf v k).length) c3) = w5 at hbx hbl hv5 ⊢
        have n0 := hbx.done
        have n1 := hbx.bits
        have HV5 := Lib.hid hv5
        have HBL := Lib.hid hbl
        clear hbt hvw hbx hbl hv5 z0 z1 zf0 zf1 xx0 xy0 x0
        go_wp2
        refine bodyPost_ret (v := .tuple #[.agg #[.string d, .slice p3 (L.length + (bitsOf v k).length) c3], .int .i64 0]) (by simp [results, Try.results22, go_sem, n0, n1]) rfl ⟨p3, c3, by rw [HLA.out], ?_, HBL.out⟩
        rw [HLA.out]
        exact HV5.out
theorem rPut_any (d : ByteArray) (p : Option Addr) (c : Nat) (L : List Bool) (v z : Int) (w : World) (hw : View (.slice p L.length c) L w) (hL : L.length ≤ 100000) :
    Calls Try.prog 22 #[.agg #[.string d, .slice p L.length c], .int .i64 v, .int .i64 z] w fun e w' => ∃ p' c', e = .returned (.tuple #[.agg #[.string d, .slice p' (L ++ putBits v z).length c'], .int .i64 (putErr v z)]) ∧ View (.slice p' (L ++ putBits v z).length c') (L ++ putBits v z) w' ∧ Below w.heap.size w w' := by
  unfold putBits putErr
  split
  · rename_i hz
    rw [List.append_nil]
    exact (rPut_arg d p L.length c v z hz w).mono fun e w' ⟨he, hb⟩ => ⟨p, c, he, hw.on hb, hb⟩
  rename_i hz
  obtain ⟨n, rfl⟩ := Int.eq_ofNat_of_zero_le (show 0 ≤ z by omega)
  split
  · rename_i hv
    rw [List.append_nil]
    exact (rPut_large d p L.length c v n (by omega) (by simpa using hv) w).mono fun e w' ⟨he, hb⟩ => ⟨p, c, he, hw.on hb, hb⟩
  · rename_i hv
    simp only [Int.toNat_natCast] at hv ⊢
    obtain ⟨x, rfl⟩ := Int.eq_ofNat_of_zero_le (show 0 ≤ v by omega)
    exact rPut_yes d p c L x n (by omega) (by omega) w hw hL

set_option maxHeartbeats 1000000 in
theorem rMark_arg (d : ByteArray) (p : Option Addr) (m c : Nat) (z : Int) (hz : z < 1 ∨ 254 < z) (w : World) :
    Calls Try.prog 23 #[.agg #[.string d, .slice p m c], .int .i64 z] w fun e w' => e = .returned (.tuple #[.agg #[.string d, .slice p m c], .int .i64 1]) ∧ Below w.heap.size w w' := by
  by_cases h1 : z < 1
  · go_enter Try.func23, Try.ntmps23
    go_wp2
    refine bodyPost_ret (v := .tuple #[.agg #[.string d, .slice p m c], .int .i64 1]) (by simp [results, Try.results23, go_sem]) rfl ⟨rfl, ?_⟩
    exact ((Below.refl _ _).alloc (Nat.le_refl _) _).alloc (by simp) _
  · have h2 : 254 < z := by omega
    clear hz
    go_enter Try.func23, Try.ntmps23
    go_wp2
    refine bodyPost_ret (v := .tuple #[.agg #[.string d, .slice p m c], .int .i64 1]) (by simp [results, Try.results23, go_sem]) rfl ⟨rfl, ?_⟩
    exact ((Below.refl _ _).alloc (Nat.le_refl _) _).alloc (by simp) _
end Go.Proofs.Ytialkpfjllhfkaa
