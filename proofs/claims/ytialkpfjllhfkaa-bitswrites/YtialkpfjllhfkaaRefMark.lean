/- A walk of the document's writer: Mark. -/
import Derived.Test.YtialkpfjllhfkaaRefPut2
import Derived.Deep.RegionWith
namespace Go.Proofs.Ytialkpfjllhfkaa
open Go.RowKit

theorem mark_str (D S : List UInt8) (z : Nat) : (⟨D.toArray⟩ : ByteArray) ++ ⟨S.toArray⟩ ++ ⟨#[255]⟩ ++ ⟨#[UInt8.ofNat z]⟩ = ⟨(D ++ S ++ [255, z.toUInt8]).toArray⟩ := by
  show (⟨D.toArray⟩ : ByteArray) ++ ⟨S.toArray⟩ ++ ⟨[255].toArray⟩ ++ ⟨[UInt8.ofNat z].toArray⟩ = _
  rw [bytes_app, bytes_app, bytes_app]
  simp
set_option maxHeartbeats 8000000 in
theorem rMark_yes (D : List UInt8) (p : Option Addr) (c : Nat) (L : List Bool) (z : Nat) (hz1 : 1 ≤ z) (hz : z ≤ 254) (w : World) (hw : View (.slice p L.length c) L w) (hL : L.length ≤ 100000) (hD : D.length ≤ 1000000) :
    Calls Try.prog 23 #[.agg #[.string ⟨D.toArray⟩, .slice p L.length c], .int .i64 z] w fun e w' => e = .returned (.tuple #[.agg #[.string ⟨(D ++ stuff L ++ [255, z.toUInt8]).toArray⟩, .slice none 0 0], .int .i64 0]) ∧ Below w.heap.size w w' := by
  have q1 : decide ((z : Int) < 1) = false := decide_eq_false (by omega)
  have q2 : decide (254 < (z : Int)) = false := decide_eq_false (by omega)
  have HB0 : Hid (Below w.heap.size w ((w.alloc (.cells #[.string ⟨D.toArray⟩, .slice p L.length c] 50)).alloc (.cells #[.string ⟨#[]⟩, .slice none 0 0] 50))) := ((Below.refl _ _).alloc (Nat.le_refl _) _).alloc (by simp) _
  have HX0 : Hid (BoxW w.heap.size ⟨D.toArray⟩ (.slice p L.length c) ((w.alloc (.cells #[.string ⟨D.toArray⟩, .slice p L.length c] 50)).alloc (.cells #[.string ⟨#[]⟩, .slice none 0 0] 50))) :=
    (Below.heap_alloc _ _ _ (by simp)).trans (heap_alloc_new _ _)
  have HZ0 : Hid (BoxW (w.heap.size + 1) ⟨#[]⟩ (.slice none 0 0) ((w.alloc (.cells #[.string ⟨D.toArray⟩, .slice p L.length c] 50)).alloc (.cells #[.string ⟨#[]⟩, .slice none 0 0] 50))) := by
    have := heap_alloc_new (w.alloc (.cells #[.string ⟨D.toArray⟩, .slice p L.length c] 50)) (.cells #[.string ⟨#[]⟩, .slice none 0 0] 50)
    have e : (w.alloc (.cells #[.string ⟨D.toArray⟩, .slice p L.length c] 50)).heap.size = w.heap.size + 1 := by simp
    rw [e] at this
    exact this
  have HV0 := Lib.hid (hw.on HB0.out)
  have hst : (stuff L).length ≤ 30000 := by have := stuff_length ((L.length + 7) / 8) L (by omega); omega
  clear hw
  obtain ⟨zb, hzb⟩ : ∃ zb, zb = IntKind.u8.wrap (z : Int) := ⟨_, rfl⟩
  have HZ8 : Hid (zb = (z.toUInt8.toNat : Nat)) := by
    rw [hzb]
    unfold Hid
    rw [toU8_toNat z (by omega)]
    simp only [IntKind.wrap, IntKind.bits, IntKind.signed]
    simp
    omega
  have hzb' := hzb.symm
  clear hzb
  go_enter Try.func23, Try.ntmps23
  go_wp2_with fail
  generalize ((w.alloc (.cells #[.string ⟨D.toArray⟩, .slice p L.length c] 50)).alloc (.cells #[.string ⟨#[]⟩, .slice none 0 0] 50)) = w1 at *
  have x0 := HX0.out.done
  have x1 := HX0.out.bits
  have z0 := HZ0.out.done
  have z1 := HZ0.out.bits
  have zf0 := HZ0.out.free 0
  have zf1 := HZ0.out.free 1
  have hxl := HX0.out.lt
  have hzl := HZ0.out.lt
  have hs1 := HB0.out.size
  have hn1 : ¬ 9223372036854775807 < D.length + (stuff L).length := by omega
  have hn2 : ¬ 9223372036854775807 < D.length + (stuff L).length + 1 := by omega
  have hn3 : ¬ 9223372036854775807 < D.length + (stuff L).length + 1 + 1 := by omega
  have HRB := Lib.hid (fun W hv => rBytes_any p c L W hv hL)
  have HVb : Hid (View (.slice p L.length c) L (w1.alloc (.cells #[.int .u8 zb] 5))) := HV0.out.on ((Below.refl _ _).alloc (Nat.le_refl _) _)
  have hcv0 := conv_at (w1.alloc (.cells #[.int .u8 zb] 5)).drew w1.heap.size zb z.toUInt8 HZ8.out (heap_alloc_new w1 _)
  go_region_with (first
    | (go_at_call 25; refine (HRB.out w1.drew HV0.out).mono ?_; rintro e w2 ⟨rfl, b2⟩; have hb12 : Below w1.heap.size w1 w2 := ⟨b2.os, b2.tape, b2.output, b2.size, b2.block⟩; have xa0 := (HX0.out.on hb12).done; have xa1 := (HX0.out.on hb12).bits; have za0 := (HZ0.out.on hb12).done; have za1 := (HZ0.out.on hb12).bits; have zaf0 := (HZ0.out.on hb12).free 0; have zaf1 := (HZ0.out.on hb12).free 1; have zal := (HZ0.out.on hb12).lt; have xal := (HX0.out.on hb12).lt; have hcv2 := conv_one w2 zb z.toUInt8 HZ8.out; clear b2)
    | (go_at_call 25; refine (HRB.out (w1.alloc (.cells #[.int .u8 zb] 5)).drew HVb.out).mono ?_; rintro e w2 ⟨rfl, b2⟩; have hb12 : Below w1.heap.size w1 w2 := Below.trans (b := w1.alloc (.cells #[.int .u8 zb] 5)) ((Below.refl _ _).alloc (Nat.le_refl _) _) ⟨b2.os, b2.tape, b2.output, b2.size, fun k hk => b2.block k (by simp; omega)⟩; have xa0 := (HX0.out.on hb12).done; have xa1 := (HX0.out.on hb12).bits; have za0 := (HZ0.out.on hb12).done; have za1 := (HZ0.out.on hb12).bits; have zaf0 := (HZ0.out.on hb12).free 0; have zaf1 := (HZ0.out.on hb12).free 1; have hcv2 := conv_at w2 w1.heap.size zb z.toUInt8 HZ8.out ((b2.block w1.heap.size (by simp)).trans (heap_alloc_new w1 _)); clear b2))
  all_goals
    have hz2 := HZ0.out.on hb12
    have hbx := hz2.set ((⟨D.toArray⟩ : ByteArray) ++ ⟨(stuff L).toArray⟩ ++ ⟨#[255]⟩ ++ ⟨#[UInt8.ofNat z]⟩) (.slice none 0 0)
    have hbl := below_set2 (HB0.out.trans (hb12.mono hs1)) (Nat.le_succ _) (.string ((⟨D.toArray⟩ : ByteArray) ++ ⟨(stuff L).toArray⟩ ++ ⟨#[255]⟩ ++ ⟨#[UInt8.ofNat z]⟩)) (.slice none 0 0)
    rw [mark_str] at hbx hbl ⊢
    generalize (w2.setCell ⟨w.heap.size + 1, 0, none⟩ (.string ⟨(D ++ stuff L ++ [255, z.toUInt8]).toArray⟩)).setCell ⟨w.heap.size + 1, 1, none⟩ (.slice none 0 0) = w5 at hbx hbl ⊢
    have ha : Below w5.heap.size w5 (w5.alloc (.cells #[.int .u8 zb] 5)) := (Below.refl _ _).alloc (Nat.le_refl _) _
    have n0 := hbx.done
    have n1 := hbx.bits
    have a0 := (hbx.on ha).done
    have a1 := (hbx.on ha).bits
    have HBL := Lib.hid hbl
    have HBA := Lib.hid (hbl.trans (ha.mono hbl.size))
    clear hbx hbl ha hz2 HRB HVb HV0 HX0 HZ0 HB0 hb12
    go_wp2
    refine bodyPost_ret (v := .tuple #[.agg #[.string ⟨(D ++ stuff L ++ [255, z.toUInt8]).toArray⟩, .slice none 0 0], .int .i64 0]) ?_ rfl ⟨rfl, ?_⟩
    · first
        | (simp only [results, Try.results23]; simp [go_sem, n0, n1]; done)
        | (simp only [results, Try.results23]; simp [go_sem, a0, a1]; done)
    · first
        | exact HBL.out
        | exact HBA.out
theorem rMark_any (D : List UInt8) (p : Option Addr) (c : Nat) (L : List Bool) (z : Int) (w : World) (hw : View (.slice p L.length c) L w) (hL : L.length ≤ 100000) (hD : D.length ≤ 1000000) :
    Calls Try.prog 23 #[.agg #[.string ⟨D.toArray⟩, .slice p L.length c], .int .i64 z] w fun e w' => ∃ p' c', e = .returned (.tuple #[.agg #[.string ⟨(markS D L z).1.toArray⟩, .slice p' (markS D L z).2.length c'], .int .i64 (markErr z)]) ∧ View (.slice p' (markS D L z).2.length c') (markS D L z).2 w' ∧ Below w.heap.size w w' := by
  unfold markS markErr
  split
  · rename_i hz
    exact (rMark_arg ⟨D.toArray⟩ p L.length c z hz w).mono fun e w' ⟨he, hb⟩ => ⟨p, c, he, hw.on hb, hb⟩
  · rename_i hz
    obtain ⟨n, rfl⟩ := Int.eq_ofNat_of_zero_le (show 0 ≤ z by omega)
    refine (rMark_yes D p c L n (by omega) (by omega) w hw hL hD).mono fun e w' ⟨he, hb⟩ => ⟨none, 0, ?_, ⟨none, 0, rfl, .inl ⟨rfl, rfl, rfl⟩⟩, hb⟩
    rw [he]
    rfl
end Go.Proofs.Ytialkpfjllhfkaa
