/- The bytes of a segment with a body: written if just that segment is read of it. -/
import Derived.Test.YtfohgocdabgbgaaDoorSAsrt
import Derived.Deep.DeepCutAuto
namespace Go.Proofs.YtfohgocdabgbgaaDoor
open Go.RowKit

/-- What is written: the marker, the length, the body. -/
def wbytes (z : Int) (S : ByteArray) : List UInt8 := ([] ++ [255] ++ pbytes z 1) ++ pbytes ((S.size : Int) + 2) 2 ++ S.data.toList
theorem meth76 (v : Value) (w : World) : (method 295 76 v "Code").run Tryd.prog w = .ok (107, v) w := by kernel_rfl
set_option maxHeartbeats 2000000 in
set_option maxRecDepth 100000 in
/-- It is read back. -/
theorem whole_yes76 (v : Value) (z : Int) (S : ByteArray) (hS : S.size ≤ 65533) (Ψ : World → Prop) (Φ : Value → World → Prop)
    (hΨ : ∀ x x', Ψ x → Below x.heap.size x x' → Ψ x')
    (hC : ∀ w, Calls Tryd.prog 107 #[v] w fun e w' => e = .returned (.int .i64 z) ∧ Below w.heap.size w w')
    (hP : ∀ w, Calls Tryd.prog 9 #[.int .i64 z, .string S] w fun e w' => ∃ A, e = .returned (.tuple #[A, .int .i64 0]) ∧ Φ A w' ∧ Below w.heap.size w w')
    (hA : ∀ A w, Φ A w → Ψ w → Calls Tryd.prog 54 #[.iface 76 v, A] w fun e w' => e = .returned (.bool true) ∧ Below w.heap.size w w')
    (L : List UInt8) (hL : L = wbytes z S) (w : World) (hw : Ψ w) :
    Calls Tryd.prog 32 #[.iface 76 v, .string S] w fun e w' => e = .returned (.tuple #[.string ⟨L.toArray⟩, .int .i64 0]) ∧ Below w.heap.size w w' := by
  have HC := Lib.hid hC
  have HP := Lib.hid hP
  have HA := Lib.hid hA
  have HK := Lib.hid hΨ
  have HW := Lib.hid hw
  have HL := Lib.hid hL
  have hneg : ¬ 9223372036854775807 < (S.size : Int) + 2 := by omega
  have hwr : wrap64 ((S.size : Int) + 2) = (S.size : Int) + 2 := wrap64_small _ (by omega) (by omega)
  have hm := meth76 v
  clear hC hP hA hΨ hw hL
  go_enter Tryd.func32, Tryd.ntmps32
  go_upto_region 4 with (first
    | (go_at_call 107; refine (HC.out _).mono ?_; rintro e w1 ⟨rfl, hb1⟩; have HB1 := Lib.hid hb1; have HW1 := Lib.hid (HK.out _ _ HW.out hb1); clear hb1)
    | (go_at_call 9; refine (HP.out _).mono ?_; rintro e w2 ⟨A, rfl, hf, hb2⟩; have HF2 := Lib.hid hf; have HB2 := Lib.hid (HB1.out.trans (hb2.mono HB1.out.size)); have HW2 := Lib.hid (HK.out _ _ HW1.out hb2); clear hb2 hf)
    | (go_at_call 54; refine (HA.out A _ HF2.out HW2.out).mono ?_; rintro e w3 ⟨rfl, hb3⟩; have HB3 := Lib.hid (HB2.out.trans (hb3.mono HB2.out.size)); clear hb3))
  have HBL := Lib.hid (Bld.new w3)
  have HB4 := Lib.hid (HB3.out.alloc HB3.out.size (.cells #[.pointer none, .slice none 0 0] 95))
  have hs3 := HB3.out.size
  go_upto_region 5 with fail
  obtain ⟨g, hg⟩ : ∃ g, g = w3.heap.size := ⟨_, rfl⟩
  obtain ⟨w4, hw4⟩ : ∃ w4, w4 = w3.alloc (.cells #[.pointer none, .slice none 0 0] 95) := ⟨_, rfl⟩
  rw [← hg, ← hw4] at HBL
  rw [← hw4] at HB4
  rw [← hg] at hs3
  rw [← hg, ← hw4]
  have hp1 := pbytes_length z 1
  obtain ⟨L1, hL1⟩ : ∃ L1, L1 = [] ++ [255] ++ pbytes z 1 := ⟨_, rfl⟩
  obtain ⟨L2, hL2⟩ : ∃ L2, L2 = L1 ++ pbytes ((S.size : Int) + 2) 2 := ⟨_, rfl⟩
  have hl1 : L1.length ≤ 5 := by rw [hL1]; simp; omega
  have hl2 : L2.length ≤ 9 := by rw [hL2, List.length_append]; have := pbytes_length ((S.size : Int) + 2) 2; omega
  have HM : Hid (∀ x, Bld g g [] x → Calls Tryd.prog 49 #[.pointer (some ⟨g, 0, none⟩), .int .i64 z] x fun e w' => e = .returned (.tuple #[]) ∧ Bld g g L1 w' ∧ Below g x w') := fun x hx => by
    rw [hL1]
    exact marker_any g g [] z x hx (by simp)
  have HN : Hid (∀ x, Bld g g L1 x → Calls Tryd.prog 31 #[.pointer (some ⟨g, 0, none⟩), .int .i64 ((S.size : Int) + 2), .int .i64 2] x fun e w' => e = .returned (.tuple #[]) ∧ Bld g g L2 w' ∧ Below g x w') := fun x hx => by
    rw [hL2]
    exact wnum_any g g L1 ((S.size : Int) + 2) 2 x hx (by omega)
  have HSt : Hid (∀ x, Bld g g L2 x → Calls Tryd.prog 26 #[.pointer (some ⟨g, 0, none⟩), .string S] x fun e w' => e = .returned (.tuple #[.int .i64 S.size, .nilIface]) ∧ Bld g g L w' ∧ Below g x w') := fun x hx => by
    rw [HL.out, wbytes, ← hL1, ← hL2]
    exact WriteString_any g g L2 S x hx (by omega) (by have := hx.lt; omega)
  have HTt : Hid (∀ x, Bld g g L x → Calls Tryd.prog 33 #[.pointer (some ⟨g, 0, none⟩)] x fun e w' => e = .returned (.string ⟨L.toArray⟩) ∧ Below g x w') := fun x hx =>
    String_some g g L x hx (by rw [HL.out]; simp [wbytes])
  clear hL1 hL2 hl1 hl2 hp1 HL hg hw4
  go_wp2_with (first
    | (go_at_call 107; refine (HC.out _).mono ?_; rintro e w5 ⟨rfl, hb5⟩; have HBL5 := Lib.hid (HBL.out.on hb5); have HB5 := Lib.hid (HB4.out.trans (hb5.mono HB4.out.size)); clear hb5)
    | (go_at_call 49; refine (HM.out w5 HBL5.out).mono ?_; rintro e w6 ⟨rfl, hr, hb6⟩; have H6 := Lib.hid hr; have HB6 := Lib.hid (HB5.out.trans (hb6.mono hs3)); clear hr hb6)
    | (go_at_call 31; refine (HN.out w6 H6.out).mono ?_; rintro e w7 ⟨rfl, hr, hb7⟩; have H7 := Lib.hid hr; have HB7 := Lib.hid (HB6.out.trans (hb7.mono hs3)); clear hr hb7)
    | (go_at_call 26; refine (HSt.out w7 H7.out).mono ?_; rintro e w8 ⟨rfl, hr, hb8⟩; have H8 := Lib.hid hr; have HB8 := Lib.hid (HB7.out.trans (hb8.mono hs3)); clear hr hb8)
    | (go_at_call 33; refine (HTt.out w8 H8.out).mono ?_; rintro e w9 ⟨rfl, hb9⟩; have HB9 := Lib.hid (HB8.out.trans (hb9.mono hs3)); clear hb9))
  go_ret2
  exact ⟨rfl, HB9.out⟩
end Go.Proofs.YtfohgocdabgbgaaDoor
