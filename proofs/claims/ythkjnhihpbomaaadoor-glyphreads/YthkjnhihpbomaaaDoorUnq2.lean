/- Walks of package glyph: unquoteByte. -/
import Derived.Test.YthkjnhihpbomaaaDoorUnq1
namespace Go.Proofs.YthkjnhihpbomaaaDoor
open Go.RowKit

/-- What a reader of a part answers: a slice with the part's bytes put behind, the place, the error. -/
def Put (B : Nat) (acc : List UInt8) (w : World) (x : List UInt8 × Nat × Nat) (e : Ending) (w' : World) : Prop :=
  ∃ v', e = .returned (.tuple #[v', .int .i64 (x.2.1 : Nat), .int .i64 (x.2.2 : Nat)]) ∧ (x.2.2 = 0 → Owns B v' (acc ++ x.1) w') ∧ Kept B w w'

set_option maxHeartbeats 2000000 in
theorem unquoteByte_any (B : Nat) (v : Value) (acc : List UInt8) (s : ByteArray) (hs : s.size ≤ 1000000) (p : Nat) (hp : p ≤ s.size) (w : World) (hB : B ≤ w.heap.size) (hown : Owns B v acc w) (hlen : acc.length ≤ 100000000) :
    Calls Tryd.prog 47 #[v, .string s, .int .i64 p] w (Put B acc w (escX s p)) := by
  have HO := Lib.hid hown
  clear hown
  by_cases h1 : ¬ p < s.size
  · have hx : escX s p = ([], p, 2) := by rw [escX, if_pos h1]
    rw [hx]
    have h1' : (s.size : Int) ≤ (p : Int) := by omega
    clear hx
    go_enter Tryd.func47, Tryd.ntmps47
    go_wp2
    refine wp_loop_rounds 3 ?_
    rw [rounds_succ]
    go_wp2
    go_ret3
    exact ⟨_, rfl, (fun h => by simp at h), Kept.refl _ _⟩
  have h1 : p < s.size := by omega
  have i0 := idx_byt s p h1 (p : Int) rfl
  have b0 := byt_lt s p
  have d0 := digit_any (byt s p) b0 w
  have v0 := digV_lt (byt s p)
  cases h2 : digOk (byt s p)
  · have hx : escX s p = ([], p, 16) := by rw [escX, if_neg (by omega), if_pos h2]
    rw [hx]
    rw [h2] at d0
    have D0 := Lib.hid d0
    clear hx h2 d0
    generalize byt s p = x0 at i0 b0 D0 v0
    generalize digV x0 = y0 at D0 v0
    go_enter Tryd.func47, Tryd.ntmps47
    go_wp2
    refine wp_loop_rounds 3 ?_
    rw [rounds_succ]
    go_wp2_with (go_at_call 52; refine D0.out.mono ?_; rintro e w' ⟨rfl, rfl⟩)
    go_ret3
    exact ⟨_, rfl, (fun h => by simp at h), Kept.refl _ _⟩
  by_cases h3 : ¬ p + 1 < s.size
  · have hx : escX s p = ([], p + 1, 2) := by rw [escX, if_neg (by omega), h2, if_neg (by simp), if_pos h3]
    rw [hx]
    rw [h2] at d0
    have D0 := Lib.hid d0
    have h3' : (s.size : Int) ≤ (p : Int) + 1 := by omega
    clear hx h2 d0
    generalize byt s p = x0 at i0 b0 D0 v0
    generalize digV x0 = y0 at D0 v0
    go_enter Tryd.func47, Tryd.ntmps47
    go_wp2
    refine wp_loop_rounds 3 ?_
    rw [rounds_succ]
    go_wp2_with (go_at_call 52; refine D0.out.mono ?_; rintro e w' ⟨rfl, rfl⟩)
    rw [rounds_succ]
    go_wp2
    go_ret3
    exact ⟨_, rfl, (fun h => by simp at h), Kept.refl _ _⟩
  have h3 : p + 1 < s.size := by omega
  have i1 := idx_byt s (p + 1) h3 ((p : Int) + 1) (by omega)
  have b1 := byt_lt s (p + 1)
  have d1 := digit_any (byt s (p + 1)) b1 w
  have v1 := digV_lt (byt s (p + 1))
  cases h4 : digOk (byt s (p + 1))
  · have hx : escX s p = ([], p + 1, 16) := by rw [escX, if_neg (by omega), h2, if_neg (by simp), if_neg (by omega), if_pos h4]
    rw [hx]
    rw [h2] at d0
    rw [h4] at d1
    have D0 := Lib.hid d0
    have D1 := Lib.hid d1
    clear hx h2 d0 h4 d1
    generalize byt s p = x0 at i0 b0 D0 v0
    generalize digV x0 = y0 at D0 v0
    generalize byt s (p + 1) = x1 at i1 b1 D1 v1
    generalize digV x1 = y1 at D1 v1
    go_enter Tryd.func47, Tryd.ntmps47
    go_wp2
    refine wp_loop_rounds 3 ?_
    rw [rounds_succ]
    go_wp2_with fail
    go_at_call 52
    refine D0.out.mono ?_
    rintro e w' ⟨rfl, rfl⟩
    go_wp2
    rw [rounds_succ]
    go_wp2_with fail
    go_at_call 52
    refine D1.out.mono ?_
    rintro e w' ⟨rfl, rfl⟩
    go_wp2
    go_ret3
    exact ⟨_, rfl, (fun h => by simp at h), Kept.refl _ _⟩
  · have hx : escX s p = ([(digV (byt s p) * 16 + digV (byt s (p + 1))).toUInt8], p + 2, 0) := by rw [escX, if_neg (by omega), h2, if_neg (by simp), if_neg (by omega), h4, if_neg (by simp)]
    rw [hx]
    rw [h2] at d0
    rw [h4] at d1
    have D0 := Lib.hid d0
    have D1 := Lib.hid d1
    clear hx h2 d0 h4 d1
    generalize byt s p = x0 at i0 b0 D0 v0
    generalize digV x0 = y0 at D0 v0
    generalize byt s (p + 1) = x1 at i1 b1 D1 v1
    generalize digV x1 = y1 at D1 v1
    have hc : [Value.int .u8 ((y0 : Int) * 16 + (y1 : Int))] = Lib.byteCells [(y0 * 16 + y1).toUInt8] := by
      simp [Lib.byteCells]; omega
    generalize (y0 * 16 + y1).toUInt8 = yy at hc
    have HC := Lib.hid hc
    clear hc
    go_enter Tryd.func47, Tryd.ntmps47
    go_wp2
    refine wp_loop_rounds 3 ?_
    rw [rounds_succ]
    go_wp2_with fail
    go_at_call 52
    refine D0.out.mono ?_
    rintro e w' ⟨rfl, rfl⟩
    go_wp2
    rw [rounds_succ]
    go_wp2_with fail
    go_at_call 52
    refine D1.out.mono ?_
    rintro e w' ⟨rfl, rfl⟩
    go_wp2
    rw [rounds_succ]
    go_wp2_with (at_builtin; refine wpList_app rfl _ _ rfl B v acc 1 [.int .u8 ((y0 : Int) * 16 + (y1 : Int))] [yy] HC.out rfl rfl rfl HO.out (by simp; omega) hB ?_)
    intro v2 w2 o2 k2
    have H2 := Lib.hid o2
    clear o2
    go_wp2
    go_ret3
    exact ⟨v2, by rw [show ((p + 2 : Nat) : Int) = (p : Int) + 1 + 1 by omega]; rfl, fun _ => H2.out, k2⟩
end Go.Proofs.YthkjnhihpbomaaaDoor
