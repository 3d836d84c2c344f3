/- Walks of package glyph: broken, quoteByte, quoteRune, Quote. -/
import Derived.Test.YthkjnhihpbomaaaDoorPlain
import Derived.Test.YthkjnhihpbomaaaDoorOwn
import Derived.Deep.DeepFit
namespace Go.Proofs.YthkjnhihpbomaaaDoor
open Go.RowKit

theorem ret_bool {a b : Bool} (h : a = b) : Ending.returned (.bool a) = .returned (.bool b) := by rw [h]
theorem ret_int {k : IntKind} {a b : Int} (h : a = b) : Ending.returned (.int k a) = .returned (.int k b) := by rw [h]

set_option maxHeartbeats 400000 in
theorem broken_any (s : ByteArray) (pos : Nat) (h : pos < s.size) (_hs : s.size ≤ 1000000) (w : World) (hT : Lib.Utf8Tabs 0 1 w) :
    Calls Tryd.prog 29 #[.string s, .int .i64 pos, .int .i32 (Utf8.decode s pos).1] w fun e w' => e = .returned (.bool (bad s pos)) ∧ Below w.heap.size w w' := by
  have hd := Tryd.utf8_DecodeRuneInString (s.extract pos s.size) w hT
  rw [decode_tail s pos h] at hd
  unfold bad
  generalize Utf8.decode s pos = d at hd
  obtain ⟨r, k⟩ := d
  simp only at hd ⊢
  clear hT
  have H := Lib.hid hd
  clear hd
  by_cases hr : r = 65533
  · subst hr
    go_enter Tryd.func29, Tryd.ntmps29
    go_wp2_with (go_at_call 45; go_fit H.out; rintro e w' ⟨rfl, hb⟩)
    go_ret
    refine ⟨ret_bool ?_, hb⟩
    rw [Bool.eq_iff_iff]; simp; omega
  · have hb : ((r : Int) != 65533) = true := by rw [bne_iff_ne]; omega
    go_enter Tryd.func29, Tryd.ntmps29
    go_wp2
    go_ret
    refine ⟨ret_bool ?_, Below.refl _ _⟩
    simp [hr]

/-- strconv.AppendInt at base 16 onto a slice of the call's own. -/
theorem appendHex (B : Nat) (v : Value) (acc : List UInt8) (u : Nat) (hu : u < 4294967296) (w : World) (hT : Tabs B w) (hown : Owns B v acc w) (hlen : acc.length ≤ 100000100) :
    Calls Tryd.prog 46 #[v, .int .i64 u, .int .i64 16] w fun e w' => ∃ v', e = .returned v' ∧ Owns B v' (acc ++ hexDigits u) w' ∧ Kept B w w' := by
  refine (appendInt16 B acc.length v (Lib.byteCells acc) u hu w hT.tz0 hown (by omega) hT.room (Nat.lt_of_lt_of_le hT.four hT.room)).mono ?_
  rintro e w' ⟨v', rfl, h1, h2, h3⟩
  refine ⟨v', rfl, ?_, h2, h3⟩
  unfold Owns
  rw [List.length_append, Lib.byteCells_append]
  exact h1

set_option maxHeartbeats 400000 in
theorem quoteByte_any (B : Nat) (v : Value) (acc : List UInt8) (c : UInt8) (w : World) (hT : Tabs B w) (hown : Owns B v acc w) (hlen : acc.length ≤ 100000000) :
    Calls Tryd.prog 30 #[v, .int .u8 c.toNat] w fun e w' => ∃ v', e = .returned v' ∧ Owns B v' (acc ++ quoteB c) w' ∧ Kept B w w' := by
  have hB := hT.room
  have HT := Lib.hid hT
  have HO := Lib.hid hown
  clear hT hown
  go_enter Tryd.func30, Tryd.ntmps30
  go_wp2_with (at_builtin; refine wpList_app rfl _ _ rfl B v acc 2 [.int .u8 92, .int .u8 120] [92, 120] rfl rfl rfl rfl HO.out (by simp; omega) hB ?_)
  intro v1 w1 h1 k1
  have H1 := Lib.hid h1
  clear h1
  have hc := c.toNat_lt
  go_wp2_with fail
  go_at_call 46
  refine (appendHex B v1 (acc ++ [92, 120]) c.toNat (by omega) w1 (HT.out.on k1.low) H1.out (by simp; omega)).mono ?_
  rintro e w2 ⟨v2, rfl, h2, k2⟩
  have H2 := Lib.hid h2
  clear h2
  go_wp2
  go_ret
  refine ⟨v2, rfl, ?_, k1.trans k2⟩
  have := H2.out
  simpa [quoteB, List.append_assoc] using this

set_option maxHeartbeats 1000000 in
theorem quoteRune_any (B : Nat) (v : Value) (acc : List UInt8) (r : Nat) (hr : r ≤ 1114111) (w : World) (hT : Tabs B w) (hown : Owns B v acc w) (hlen : acc.length ≤ 100000000) :
    Calls Tryd.prog 31 #[v, .int .i32 r] w fun e w' => ∃ v', e = .returned v' ∧ Owns B v' (acc ++ quoteR r) w' ∧ Kept B w w' := by
  have hB := hT.room
  have HT := Lib.hid hT
  have HO := Lib.hid hown
  clear hT hown
  by_cases h1 : r = 34
  · subst h1
    go_enter Tryd.func31, Tryd.ntmps31
    go_wp2_with (at_builtin; refine wpList_app rfl _ _ rfl B v acc 2 [.int .u8 92, .int .u8 34] [92, 34] rfl rfl rfl rfl HO.out (by simp; omega) hB ?_)
    intro v1 w1 o1 k1
    have H1 := Lib.hid o1
    clear o1
    go_wp2
    go_ret
    exact ⟨v1, rfl, H1.out, k1⟩
  by_cases h2 : r = 92
  · subst h2
    go_enter Tryd.func31, Tryd.ntmps31
    go_wp2_with (at_builtin; refine wpList_app rfl _ _ rfl B v acc 2 [.int .u8 92, .int .u8 92] [92, 92] rfl rfl rfl rfl HO.out (by simp; omega) hB ?_)
    intro v1 w1 o1 k1
    have H1 := Lib.hid o1
    clear o1
    go_wp2
    go_ret
    exact ⟨v1, rfl, H1.out, k1⟩
  by_cases h3 : r = 10
  · subst h3
    go_enter Tryd.func31, Tryd.ntmps31
    go_wp2_with (at_builtin; refine wpList_app rfl _ _ rfl B v acc 2 [.int .u8 92, .int .u8 110] [92, 110] rfl rfl rfl rfl HO.out (by simp; omega) hB ?_)
    intro v1 w1 o1 k1
    have H1 := Lib.hid o1
    clear o1
    go_wp2
    go_ret
    exact ⟨v1, rfl, H1.out, k1⟩
  have e1 : ((r : Int) == 34) = false := beq_eq_false_iff_ne.2 (by omega)
  have e2 : ((r : Int) == 92) = false := beq_eq_false_iff_ne.2 (by omega)
  have e3 : ((r : Int) == 10) = false := beq_eq_false_iff_ne.2 (by omega)
  by_cases h4 : 32 ≤ r ∧ r ≤ 126
  · obtain ⟨h4a, h4b⟩ := h4
    have hq : quoteR r = [r.toUInt8] := by simp [quoteR, h1, h2, h3, h4a, h4b]
    have hb : [Value.int .u8 (r : Int)] = Lib.byteCells [r.toUInt8] := by
      simp [Lib.byteCells]; omega
    rw [hq]
    have HB := Lib.hid hb
    clear hq hb h1 h2 h3
    go_enter Tryd.func31, Tryd.ntmps31
    go_wp2_with (at_builtin; refine wpList_app rfl _ _ rfl B v acc 1 [.int .u8 r] [r.toUInt8] HB.out rfl rfl rfl HO.out (by simp; omega) hB ?_)
    intro v1 w1 o1 k1
    have H1 := Lib.hid o1
    clear o1
    go_wp2
    go_ret
    exact ⟨v1, rfl, H1.out, k1⟩
  · have hq : quoteR r = [92, 117, 123] ++ (hexDigits r ++ [125]) := by simp [quoteR, h1, h2, h3, h4]
    rw [hq]
    have hd := (hexDigits_length r).2
    clear hq h1 h2 h3
    have go : ∀ (_ : (r : Int) < 32 ∨ 126 < (r : Int)), Calls Tryd.prog 31 #[v, .int .i32 r] w fun e w' => ∃ v', e = .returned v' ∧ Owns B v' (acc ++ ([92, 117, 123] ++ (hexDigits r ++ [125]))) w' ∧ Kept B w w' := by
      intro hc
      rcases hc with hc | hc
      all_goals
        go_enter Tryd.func31, Tryd.ntmps31
        go_wp2_with (at_builtin; refine wpList_app rfl _ _ rfl B v acc 3 [.int .u8 92, .int .u8 117, .int .u8 123] [92, 117, 123] rfl rfl rfl rfl HO.out (by simp; omega) hB ?_)
        intro v1 w1 o1 k1
        have H1 := Lib.hid o1
        clear o1
        go_wp2_with fail
        go_at_call 46
        refine (appendHex B v1 (acc ++ [92, 117, 123]) r (by omega) w1 (HT.out.on k1.low) H1.out (by simp; omega)).mono ?_
        rintro e w2 ⟨v2, rfl, h2, k2⟩
        have H2 := Lib.hid h2
        have hB2 := Nat.le_trans hB (k1.trans k2).low.size
        clear h2
        go_wp2_with (at_builtin; refine wpList_app rfl _ _ rfl B v2 (acc ++ [92, 117, 123] ++ hexDigits r) 1 [.int .u8 125] [125] rfl rfl rfl rfl H2.out (by simp; omega) hB2 ?_)
        intro v3 w3 o3 k3
        have H3 := Lib.hid o3
        clear o3
        go_wp2
        go_ret
        refine ⟨v3, rfl, ?_, (k1.trans k2).trans k3⟩
        have := H3.out
        simpa [List.append_assoc] using this
    exact go (by omega)
end Go.Proofs.YthkjnhihpbomaaaDoor
