/- Walks of package glyph: unquoteBackslash, Unquote. -/
import Derived.Test.YthkjnhihpbomaaaDoorUnq3
namespace Go.Proofs.YthkjnhihpbomaaaDoor
open Go.RowKit

set_option maxRecDepth 100000 in
set_option maxHeartbeats 2000000 in
theorem unquoteBackslash_any (B : Nat) (v : Value) (acc : List UInt8) (s : ByteArray) (hs : s.size ≤ 1000000) (p : Nat) (hp : p ≤ s.size) (w : World) (hB : B ≤ w.heap.size) (hown : Owns B v acc w) (hlen : acc.length ≤ 100000000) :
    Calls Tryd.prog 33 #[v, .string s, .int .i64 p] w (Put B acc w (esc s p)) := by
  have HO := Lib.hid hown
  clear hown
  by_cases h1 : ¬ p < s.size
  · have hx : esc s p = ([], p, 2) := by rw [esc, if_pos h1]
    rw [hx]
    have h1' : (s.size : Int) ≤ (p : Int) := by omega
    clear hx
    go_enter Tryd.func33, Tryd.ntmps33
    go_wp2
    go_ret3
    exact ⟨_, rfl, (fun h => by simp at h), Kept.refl _ _⟩
  have h1 : p < s.size := by omega
  have i0 := idx_byt s p h1 (p : Int) rfl
  have hgb : [Value.int .u8 (byt s p : Int)] = Lib.byteCells [s.get! p] := rfl
  have hxx := unquoteByte_any B v acc s hs (p + 1) (by omega) w hB HO.out hlen
  have huu := unquoteRune_any B v acc s hs (p + 1) (by omega) w hB HO.out hlen
  rw [show ((p + 1 : Nat) : Int) = (p : Int) + 1 by omega] at hxx huu
  have HX := Lib.hid hxx
  have HU := Lib.hid huu
  clear hxx huu
  have hx : esc s p = if byt s p = 34 ∨ byt s p = 92 then ([s.get! p], p + 1, 0) else if byt s p = 110 then ([10], p + 1, 0) else if byt s p = 120 then escX s (p + 1) else if byt s p = 117 then escU s (p + 1) else ([], p, 16) := by
    rw [esc, if_neg (by omega)]
  rw [hx]
  clear hx
  have hb := byt_lt s p
  generalize s.get! p = g at hgb ⊢
  generalize byt s p = b at i0 hgb hb ⊢
  by_cases c1 : b = 34
  · subst c1
    rw [if_pos (Or.inl rfl)]
    have HG := Lib.hid hgb
    clear hgb
    go_enter Tryd.func33, Tryd.ntmps33
    go_wp2_with (at_builtin; refine wpList_app rfl _ _ rfl B v acc 1 [.int .u8 34] [g] HG.out rfl rfl rfl HO.out (by simp; omega) hB ?_)
    intro v2 w2 o2 k2
    have H2 := Lib.hid o2
    clear o2
    go_wp2
    go_ret3
    exact ⟨v2, by rw [show ((p + 1 : Nat) : Int) = (p : Int) + 1 by omega]; rfl, fun _ => H2.out, k2⟩
  by_cases c2 : b = 92
  · subst c2
    rw [if_pos (Or.inr rfl)]
    have HG := Lib.hid hgb
    clear hgb
    go_enter Tryd.func33, Tryd.ntmps33
    go_wp2_with (at_builtin; refine wpList_app rfl _ _ rfl B v acc 1 [.int .u8 92] [g] HG.out rfl rfl rfl HO.out (by simp; omega) hB ?_)
    intro v2 w2 o2 k2
    have H2 := Lib.hid o2
    clear o2
    go_wp2
    go_ret3
    exact ⟨v2, by rw [show ((p + 1 : Nat) : Int) = (p : Int) + 1 by omega]; rfl, fun _ => H2.out, k2⟩
  rw [if_neg (by omega)]
  clear hgb
  by_cases c3 : b = 110
  · subst c3
    rw [if_pos rfl]
    go_enter Tryd.func33, Tryd.ntmps33
    go_wp2_with (at_builtin; refine wpList_app rfl _ _ rfl B v acc 1 [.int .u8 10] [10] rfl rfl rfl rfl HO.out (by simp; omega) hB ?_)
    intro v2 w2 o2 k2
    have H2 := Lib.hid o2
    clear o2
    go_wp2
    go_ret3
    exact ⟨v2, by rw [show ((p + 1 : Nat) : Int) = (p : Int) + 1 by omega]; rfl, fun _ => H2.out, k2⟩
  rw [if_neg c3]
  by_cases c4 : b = 120
  · subst c4
    rw [if_pos rfl]
    go_enter Tryd.func33, Tryd.ntmps33
    go_wp2_with (go_at_call 47; refine HX.out.mono ?_; rintro e w2 ⟨v2, rfl, o2, k2⟩)
    have H2 := Lib.hid o2
    clear o2
    go_ret3
    exact ⟨v2, rfl, H2.out, k2⟩
  rw [if_neg c4]
  by_cases c5 : b = 117
  · subst c5
    rw [if_pos rfl]
    go_enter Tryd.func33, Tryd.ntmps33
    go_wp2_with (go_at_call 48; refine HU.out.mono ?_; rintro e w2 ⟨v2, rfl, o2, k2⟩)
    have H2 := Lib.hid o2
    clear o2
    go_ret3
    exact ⟨v2, rfl, H2.out, k2⟩
  rw [if_neg c5]
  have e1 : ((b : Int) == 34) = false := beq_eq_false_iff_ne.2 (by omega)
  have e2 : ((b : Int) == 92) = false := beq_eq_false_iff_ne.2 (by omega)
  have e3 : ((b : Int) == 110) = false := beq_eq_false_iff_ne.2 (by omega)
  have e4 : ((b : Int) == 120) = false := beq_eq_false_iff_ne.2 (by omega)
  have e5 : ((b : Int) == 117) = false := beq_eq_false_iff_ne.2 (by omega)
  clear c1 c2 c3 c4 c5
  go_enter Tryd.func33, Tryd.ntmps33
  go_wp2
  go_ret3
  exact ⟨_, rfl, (fun h => by simp at h), Kept.refl _ _⟩

/-- An error or none, and a place within. -/
theorem unqFrom_on (s : ByteArray) (f p : Nat) (acc : List UInt8) (hp : p < s.size) :
    unqFrom s (f + 1) p acc = if byt s p = 34 then (acc, p + 1, 0)
    else if byt s p = 92 then (if (esc s (p + 1)).2.2 = 0 then unqFrom s f (esc s (p + 1)).2.1 (acc ++ (esc s (p + 1)).1) else ([], (esc s (p + 1)).2.1, (esc s (p + 1)).2.2))
    else if 32 ≤ byt s p ∧ byt s p ≤ 126 then unqFrom s f (p + 1) (acc ++ [s.get! p])
    else ([], p, 16) := by
  rw [unqFrom, if_neg (by omega)]

set_option maxRecDepth 100000 in
set_option maxHeartbeats 4000000 in
theorem Unquote_any (s : ByteArray) (hs : s.size ≤ 1000000) (w : World) :
    Calls Tryd.prog 13 #[.string s] w fun e w' => e = .returned (.tuple #[.string ⟨(unq s).1.toArray⟩, .int .i64 ((unq s).2.1 : Nat), .int .i64 ((unq s).2.2 : Nat)]) ∧ Below w.heap.size w w' := by
  by_cases h1 : ¬ 0 < s.size
  · have hx : unq s = ([], 0, 2) := by rw [unq, if_pos h1]
    have E := expect_short s 34 w
    rw [hx]
    have h0 : ((s.size : Nat) : Int) = 0 := by omega
    rw [h0] at E
    have HE := Lib.hid E
    clear hx h0 h1 E
    go_enter Tryd.func13, Tryd.ntmps13
    go_wp2_with (go_at_call 32; refine HE.out.mono ?_; rintro e w' ⟨rfl, rfl⟩)
    go_ret3
    exact ⟨rfl, Below.refl _ _⟩
  have h1 : 0 < s.size := by omega
  by_cases h2 : byt s 0 ≠ 34
  · have hx : unq s = ([], 0, 16) := by rw [unq, if_neg (by omega), if_pos h2]
    rw [hx]
    have E := Lib.hid (expect_wrong s hs 0 34 h1 (by rw [bne_iff_ne]; omega) w)
    clear hx
    go_enter Tryd.func13, Tryd.ntmps13
    go_wp2_with (go_at_call 32; refine E.out.mono ?_; rintro e w' ⟨rfl, rfl⟩)
    go_ret3
    exact ⟨rfl, Below.refl _ _⟩
  have h2 : byt s 0 = 34 := by omega
  have E := Lib.hid (expect_right s hs 0 34 h1 h2 w)
  have hu : unq s = unqFrom s s.size 1 [] := by rw [unq, if_neg (by omega), if_neg (by omega)]
  generalize unq s = U at hu
  have Hu := Lib.hid hu
  clear hu h2
  go_enter Tryd.func13, Tryd.ntmps13
  go_wp2_with (go_at_call 32; refine E.out.mono ?_; rintro e w' ⟨rfl, rfl⟩)
  go_loopw [5, 7] (fun i v wr => ∃ (f p : Nat) (acc : List UInt8), i = .int .i64 p ∧ Owns w'.heap.size v acc wr ∧ Kept w'.heap.size w' wr ∧ unqFrom s f p acc = U ∧ s.size ≤ p + f ∧ p ≤ s.size ∧ acc.length ≤ 4 * p ∧ 0 < p) (fun i _ _ => s.size - (intOf i).toNat)
  case atStart => exact ⟨s.size, 1, [], rfl, World.ownsRow_nil _ _ _ _, Kept.refl _ _, Hu.out.symm, by omega, by omega, by simp, by omega⟩
  case round =>
    obtain ⟨f, p, acc, rfl, hO, hK, hU, hf, hp, hal, hp0⟩ := hrel
    have HO := Lib.hid hO
    have HK := Lib.hid hK
    have HU := Lib.hid hU
    have hBr := hK.low.size
    clear hO hK hU
    by_cases hp1 : p < s.size
    · obtain ⟨f, rfl⟩ : ∃ f', f = f' + 1 := ⟨f - 1, by omega⟩
      have hst := unqFrom_on s f p acc hp1
      rw [HU.out] at hst
      have i0 := idx_byt s p hp1 (p : Int) rfl
      have hb := byt_lt s p
      have hgb : [Value.int .u8 (byt s p : Int)] = Lib.byteCells [s.get! p] := rfl
      have hbk := unquoteBackslash_any w'.heap.size u7 acc s hs (p + 1) (by omega) wr hBr HO.out (by omega)
      rw [show ((p + 1 : Nat) : Int) = (p : Int) + 1 by omega] at hbk
      have hel := esc_len s (p + 1)
      have hep := esc_place s (p + 1) (by omega)
      generalize s.get! p = g at hgb hst
      generalize byt s p = b at i0 hb hgb hst
      by_cases c1 : b = 34
      · subst c1
        rw [if_pos rfl] at hst
        have Hs := Lib.hid hst
        have hcv := owns_conv HO.out
        clear hst hgb hbk
        go_wp2
        go_ret3
        refine ⟨?_, HK.out.low⟩
        rw [Hs.out]
        rfl
      rw [if_neg c1] at hst
      by_cases c2 : b = 92
      · subst c2
        rw [if_pos rfl] at hst
        generalize esc s (p + 1) = X at hst hbk hel hep
        obtain ⟨bs, q, er⟩ := X
        simp only at hst hel hep
        obtain ⟨hq1, hq2⟩ := hep
        have HBK := Lib.hid hbk
        by_cases c3 : er = 0
        · subst c3
          rw [if_pos rfl] at hst
          have Hs := Lib.hid hst
          clear hst hgb hbk
          go_wp2_with (go_at_call 33; refine HBK.out.mono ?_; rintro e w2 ⟨v2, rfl, o2, k2⟩)
          have HO2 := Lib.hid (o2 trivial)
          have HK2 := Lib.hid (HK.out.trans k2)
          clear o2 k2
          go_roundw
          case rel => exact ⟨f, q, acc ++ bs, rfl, HO2.out, HK2.out, Hs.out.symm, by omega, by omega, by simp; omega, by omega⟩
          case measure => simp [intOf]; omega
        · rw [if_neg c3] at hst
          have Hs := Lib.hid hst
          have c3' : ((er : Int) != 0) = true := by rw [bne_iff_ne]; omega
          clear hst hgb hbk c3
          go_wp2_with (go_at_call 33; refine HBK.out.mono ?_; rintro e w2 ⟨v2, rfl, o2, k2⟩)
          have HK2 := Lib.hid (HK.out.trans k2)
          clear o2 k2
          go_ret3
          refine ⟨?_, HK2.out.low⟩
          rw [Hs.out]
          rfl
      rw [if_neg c2] at hst
      have e1 : ((b : Int) == 34) = false := beq_eq_false_iff_ne.2 (by omega)
      have e2 : ((b : Int) == 92) = false := beq_eq_false_iff_ne.2 (by omega)
      by_cases c3 : 32 ≤ b ∧ b ≤ 126
      · rw [if_pos c3] at hst
        have Hs := Lib.hid hst
        have HG := Lib.hid hgb
        have c3a : 32 ≤ (b : Int) := by omega
        have c3b : (b : Int) ≤ 126 := by omega
        clear hst hgb hbk c1 c2 c3
        go_wp2_with (at_builtin; refine wpList_app rfl _ _ rfl w'.heap.size u7 acc 1 [.int .u8 (b : Int)] [g] HG.out rfl rfl rfl HO.out (by simp; omega) hBr ?_)
        intro v2 w2 o2 k2
        have HO2 := Lib.hid o2
        have HK2 := Lib.hid (HK.out.trans k2)
        clear o2 k2
        go_wp2
        go_roundw
        case rel => exact ⟨f, p + 1, acc ++ [g], by go_num, HO2.out, HK2.out, Hs.out.symm, by omega, by omega, by simp; omega, by omega⟩
        case measure => simp [intOf]; omega
      · rw [if_neg c3] at hst
        have Hs := Lib.hid hst
        have c5 : (b : Int) < 32 ∨ 126 < (b : Int) := by omega
        clear hst hgb hbk c1 c2 c3
        rcases c5 with c5 | c5
        all_goals
          go_wp2
          go_ret3
          refine ⟨?_, HK.out.low⟩
          rw [Hs.out]
          rfl
    · have hst : U = ([], p, 2) := by
        rw [← HU.out]
        cases f with
        | zero => rfl
        | succ f => rw [unqFrom, if_pos (by omega)]
      have Hs := Lib.hid hst
      have hp2 : ¬ ((p : Int) < (s.size : Int)) := by omega
      clear hst
      go_wp2
      go_ret3
      refine ⟨?_, HK.out.low⟩
      rw [Hs.out]
      rfl
end Go.Proofs.YthkjnhihpbomaaaDoor
