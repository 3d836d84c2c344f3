/- A segment of how many units stand between two restarts: read, written. -/
import Derived.Test.YtfohgocdabgbgaaDoorSWhole
namespace Go.Proofs.YtfohgocdabgbgaaDoor
open Go.RowKit

def restV (n : Nat) : Value := .iface 76 (.agg #[.int .i64 (n : Nat)])
set_option maxHeartbeats 1000000 in
theorem segment_dd (B k c : Nat) (s : ByteArray) (hs : s.size ≤ maxLen) (p : Nat × Nat) (w : World) (h : Rdd B k c s p w) :
    Calls Tryd.prog 22 #[.pointer (some ⟨k, 0, none⟩), .int .i64 221] w fun e w' => e = .returned (restV (rnum s 2 p).1) ∧ Rdd B k c s (rnum s 2 p).2 w' ∧ Below B w w' := by
  have HN := Lib.hid (num_any B k c s hs p 2 (by omega) (by omega) w h)
  unfold restV
  generalize (rnum s 2 p).1 = v at *
  go_enter Tryd.func22, Tryd.ntmps22
  go_wp2_with (go_at_call 46; refine HN.out.mono ?_; rintro e w1 ⟨rfl, hr, hb⟩; have H1 := Lib.hid hr; have HB1 := Lib.hid hb; clear hr hb HN)
  go_ret
  exact ⟨rfl, H1.out, HB1.out⟩
/-- What is read of two bytes. -/
theorem Parse_dd (s : ByteArray) (hs : s.size ≤ 65533) (E : Nat) (hE : E = (rneed (decide (s.size - (rnum s 2 (0, 0)).2.1 = 0)) 4 (rnum s 2 (0, 0)).2).2) (w : World) :
    Calls Tryd.prog 9 #[.int .i64 221, .string s] w fun e w' => PPost (fun _ V _ => V = restV (rnum s 2 (0, 0)).1) E w e w' :=
  Parse_read (fun _ V _ => V = restV (rnum s 2 (0, 0)).1) (fun _ _ _ _ _ _ _ h _ _ => h) 221 s rfl hs (rnum s 2 (0, 0)).2
    (fun B k c x hx => (segment_dd B k c s (by unfold maxLen; omega) (0, 0) x hx).mono fun e w' ⟨h1, h2, h3⟩ => ⟨_, h1, rfl, h2, h3⟩) E hE w
set_option maxHeartbeats 1000000 in
theorem Code_dd (n : Nat) (w : World) : Calls Tryd.prog 107 #[.agg #[.int .i64 (n : Nat)]] w fun e w' => e = .returned (.int .i64 221) ∧ Below w.heap.size w w' := by
  have HB := Lib.hid (below_new w (.cells #[.int .i64 (n : Nat)] 76))
  go_enter Tryd.func107, Tryd.ntmps107
  go_wp2
  go_ret
  exact ⟨rfl, HB.out⟩
set_option maxHeartbeats 2000000 in
set_option maxRecDepth 100000 in
theorem alike_dd (n : Nat) (w : World) : Calls Tryd.prog 54 #[restV n, restV n] w fun e w' => e = .returned (.bool true) ∧ Below w.heap.size w w' := by
  unfold restV
  have a1 := fun w => no98 (t := 76) (by decide) (.agg #[.int .i64 (n : Nat)]) w
  have a2 := fun w => no62 (t := 76) (by decide) (.agg #[.int .i64 (n : Nat)]) w
  have a3 := fun w => no70 (t := 76) (by decide) (.agg #[.int .i64 (n : Nat)]) w
  have a4 := fun w => no44 (t := 76) (by decide) (.agg #[.int .i64 (n : Nat)]) w
  have a5 := fun w => no49 (t := 76) (by decide) (.agg #[.int .i64 (n : Nat)]) w
  have a6 := fun w => yes76 (.agg #[.int .i64 (n : Nat)]) w
  go_enter Tryd.func54, Tryd.ntmps54
  go_wp2
  go_ret
  exact ⟨rfl, (below_new _ _).alloc (by rw [size_alloc]; omega) _⟩

theorem rnum8 : rnum ⟨#[0, 8]⟩ 2 (0, 0) = (8, (2, 0)) := by kernel_rfl
theorem Parse_8 (w : World) : Calls Tryd.prog 9 #[.int .i64 221, .string ⟨#[0, 8]⟩] w fun e w' => e = .returned (.tuple #[restV 8, .int .i64 0]) ∧ Below w.heap.size w w' := by
  refine (Parse_dd ⟨#[0, 8]⟩ (by decide) 0 (by rw [rnum8]; rfl) w).mono ?_
  rintro e w' ⟨⟨_, V, rfl, hv⟩ | ⟨h, _⟩, hb⟩
  · rw [rnum8] at hv
    exact ⟨by rw [hv], hb⟩
  · exact absurd rfl h
theorem whole_8 (w : World) : Calls Tryd.prog 32 #[.iface 76 (.agg #[.int .i64 8]), .string ⟨#[0, 8]⟩] w fun e w' => e = .returned (.tuple #[.string ⟨#[255, 221, 0, 4, 0, 8]⟩, .int .i64 0]) ∧ Below w.heap.size w w' :=
  whole_yes76 (.agg #[.int .i64 8]) 221 ⟨#[0, 8]⟩ (by decide) (fun _ => True) (fun A _ => A = .iface 76 (.agg #[.int .i64 8])) (fun _ _ _ _ => trivial) (Code_dd 8)
    (fun w => (Parse_8 w).mono fun e w' ⟨h1, h2⟩ => ⟨_, h1, rfl, h2⟩) (fun A w hA _ => by rw [hA]; exact alike_dd 8 w) [255, 221, 0, 4, 0, 8] (by kernel_rfl) w trivial

set_option maxHeartbeats 2000000 in
set_option maxRecDepth 100000 in
/-- Bytes of how many units stand between two restarts. -/
theorem Bytes_rest (n : Int) (S : ByteArray) (hS : S = ⟨(pbytes n 2).toArray⟩) (hne : pbytes n 2 ≠ []) (T : ByteArray) (E : Int)
    (hW : ∀ w, Calls Tryd.prog 32 #[.iface 76 (.agg #[.int .i64 n]), .string S] w fun e w' => e = .returned (.tuple #[.string T, .int .i64 E]) ∧ Below w.heap.size w w') (w : World) :
    Calls Tryd.prog 11 #[.iface 76 (.agg #[.int .i64 n])] w fun e w' => e = .returned (.tuple #[.string T, .int .i64 E]) ∧ Below w.heap.size w w' := by
  have HW := Lib.hid hW
  have a0 := fun w => no58 (t := 76) (by decide) (.agg #[.int .i64 n]) w
  have a1 := fun w => no98 (t := 76) (by decide) (.agg #[.int .i64 n]) w
  have a2 := fun w => no62 (t := 76) (by decide) (.agg #[.int .i64 n]) w
  have a3 := fun w => no70 (t := 76) (by decide) (.agg #[.int .i64 n]) w
  have a4 := fun w => no44 (t := 76) (by decide) (.agg #[.int .i64 n]) w
  have a5 := fun w => no49 (t := 76) (by decide) (.agg #[.int .i64 n]) w
  have a6 := fun w => yes76 (.agg #[.int .i64 n]) w
  obtain ⟨w2, hw2⟩ : ∃ w2, w2 = (w.alloc (.cells #[.pointer none, .slice none 0 0] 95)).alloc (.cells #[.int .i64 n] 76) := ⟨_, rfl⟩
  have HB2 : Hid (Bld w.heap.size w.heap.size [] w2) := by rw [hw2]; exact (Bld.new w).on (below_new _ _)
  have HL2 : Hid (Below w.heap.size w w2) := by rw [hw2]; exact (below_new _ _).alloc (by rw [size_alloc]; omega) _
  have HN : Hid (∀ x, Bld w.heap.size w.heap.size [] x → Calls Tryd.prog 31 #[.pointer (some ⟨w.heap.size, 0, none⟩), .int .i64 n, .int .i64 2] x fun e w' => e = .returned (.tuple #[]) ∧ Bld w.heap.size w.heap.size (pbytes n 2) w' ∧ Below w.heap.size x w') := fun x hx => wnum_any _ _ [] n 2 x hx (by simp)
  have HT : Hid (∀ x, Bld w.heap.size w.heap.size (pbytes n 2) x → Calls Tryd.prog 33 #[.pointer (some ⟨w.heap.size, 0, none⟩)] x fun e w' => e = .returned (.string S) ∧ Below w.heap.size x w') := fun x hx => by rw [hS]; exact String_some _ _ _ x hx hne
  have x0 : w2.cell? ⟨w.heap.size + 1, 0, none⟩ = some (.int .i64 n) := by
    have h := cell_one (w.alloc (.cells #[.pointer none, .slice none 0 0] 95)) (.int .i64 n) 76
    rw [← hw2, size_alloc] at h
    exact h
  have HX0 := Lib.hid x0
  have HW2 := Lib.hid hw2
  clear hW hS hne x0 hw2
  go_enter Tryd.func11, Tryd.ntmps11
  go_upto_region 25 with fail
  rw [← HW2.out]
  have x0 := HX0.out
  clear a0 a1 a2 a3 a4 a5 a6 HW2
  go_wp2_with (first
    | (go_at_call 31; refine (HN.out w2 HB2.out).mono ?_; rintro e w3 ⟨rfl, hr, hb3⟩; have H3 := Lib.hid hr; have HL3 := Lib.hid (HL2.out.trans hb3); clear hr hb3)
    | (go_at_call 33; refine (HT.out w3 H3.out).mono ?_; rintro e w4 ⟨rfl, hb4⟩; have HL4 := Lib.hid (HL3.out.trans hb4); clear hb4)
    | (go_at_call 32; refine (HW.out w4).mono ?_; rintro e w5 ⟨rfl, hb5⟩; have HL5 := Lib.hid (HL4.out.trans (hb5.mono HL4.out.size)); clear hb5))
  go_ret2
  exact ⟨rfl, HL5.out⟩
set_option maxHeartbeats 2000000 in
set_option maxRecDepth 100000 in
/-- Bytes of nothing. -/
theorem Bytes_nil (w : World) : Calls Tryd.prog 11 #[.nilIface] w fun e w' => e = .returned (.tuple #[.string ⟨#[]⟩, .int .i64 1]) ∧ Below w.heap.size w w' := by
  have a0 := nil58
  have a1 := nil98
  have a2 := nil62
  have a3 := nil70
  have a4 := nil44
  have a5 := nil49
  have a6 := nil76
  have HB := Lib.hid (below_new w (.cells #[.pointer none, .slice none 0 0] 95))
  go_enter Tryd.func11, Tryd.ntmps11
  go_wp2
  go_ret2
  exact ⟨rfl, HB.out⟩
set_option maxHeartbeats 2000000 in
set_option maxRecDepth 100000 in
/-- Bytes of a segment without a body. -/
theorem Bytes_bare (z : Int) (T : ByteArray) (E : Int) (hW : ∀ w, Calls Tryd.prog 25 #[.agg #[.int .i64 z]] w fun e w' => e = .returned (.tuple #[.string T, .int .i64 E]) ∧ Below w.heap.size w w') (w : World) :
    Calls Tryd.prog 11 #[.iface 58 (.agg #[.int .i64 z])] w fun e w' => e = .returned (.tuple #[.string T, .int .i64 E]) ∧ Below w.heap.size w w' := by
  have HW := Lib.hid hW
  have a0 := fun w => yes58 (.agg #[.int .i64 z]) w
  obtain ⟨w2, hw2⟩ : ∃ w2, w2 = (w.alloc (.cells #[.pointer none, .slice none 0 0] 95)).alloc (.cells #[.int .i64 z] 58) := ⟨_, rfl⟩
  have HL2 : Hid (Below w.heap.size w w2) := by rw [hw2]; exact (below_new _ _).alloc (by rw [size_alloc]; omega) _
  have x0 : w2.cell? ⟨w.heap.size + 1, 0, none⟩ = some (.int .i64 z) := by
    have h := cell_one (w.alloc (.cells #[.pointer none, .slice none 0 0] 95)) (.int .i64 z) 58
    rw [← hw2, size_alloc] at h
    exact h
  have HX0 := Lib.hid x0
  have HW2 := Lib.hid hw2
  clear hW x0 hw2
  go_enter Tryd.func11, Tryd.ntmps11
  go_upto_region 7 with fail
  rw [← HW2.out]
  have x0 := HX0.out
  clear HW2 a0
  go_wp2_with (go_at_call 25; refine (HW.out _).mono ?_; rintro e w5 ⟨rfl, hb5⟩; have HL5 := Lib.hid (HL2.out.trans (hb5.mono HL2.out.size)); clear hb5)
  go_ret2
  exact ⟨rfl, HL5.out⟩
theorem pb8 : pbytes 8 2 = [0, 8] := by kernel_rfl
theorem Bytes_8 (w : World) : Calls Tryd.prog 11 #[restV 8] w fun e w' => e = .returned (.tuple #[.string ⟨#[255, 221, 0, 4, 0, 8]⟩, .int .i64 0]) ∧ Below w.heap.size w w' :=
  Bytes_rest 8 ⟨#[0, 8]⟩ (by rw [pb8]) (by rw [pb8]; simp) _ 0 whole_8 w
set_option maxHeartbeats 1000000 in
/-- The document's example. -/
theorem awake_any (w : World) : Calls Tryd.prog 10 #[] w fun e w' => e = .returned (.bool true) ∧ Below w.heap.size w w' := by
  have HP : Hid (∀ w, Calls Tryd.prog 9 #[.int .i64 221, .string ⟨#[0, 8]⟩] w fun e w' => e = .returned (.tuple #[restV 8, .int .i64 0]) ∧ Below w.heap.size w w') := Parse_8
  have HB := Lib.hid Bytes_8
  generalize restV 8 = V at *
  go_enter Tryd.func10, Tryd.ntmps10
  go_wp2_with (first
    | (go_at_call 9; refine (HP.out w).mono ?_; rintro e w1 ⟨rfl, hb1⟩; have HB1 := Lib.hid hb1; clear hb1)
    | (go_at_call 11; refine (HB.out w1).mono ?_; rintro e w2 ⟨rfl, hb2⟩; have HB2 := Lib.hid (HB1.out.trans (hb2.mono HB1.out.size)); clear hb2))
  go_ret
  exact ⟨by simp, HB2.out⟩
end Go.Proofs.YtfohgocdabgbgaaDoor
