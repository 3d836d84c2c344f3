/- A walk: the symbols of any bits, by any right table, are the document's, up to the first error. -/
import Derived.Test.YtmoennlpendknaaHReads0
import Derived.Deep.DeepCutAuto
namespace Go.Proofs.Ytmoennlpendknaa
open Go.RowKit

set_option maxHeartbeats 2000000 in
theorem reads_far (c : Nat → Nat) (s x : ByteArray) (hs : s.size ≤ maxLen) (hx : x.size ≤ maxLen) (hl : 256 < s.size ∨ 200 < x.size) (w : World) :
    Calls Try.prog 6 #[.agg (cnt c), .string s, .string x] w fun e w' => e = .returned (.bool true) ∧ Below w.heap.size w w' := by
  unfold maxLen at hs hx
  have HB0 := Lib.hid (below_box w (.cells (cnt c) 22))
  by_cases h1 : 256 < s.size
  · have h1' : (256 : Int) < (s.size : Int) := by omega
    clear hl
    go_enter Try.func6, Try.ntmps6
    go_wp2_with fail
    go_at_call 9
    refine (awake_any _).mono ?_
    rintro e w1 ⟨rfl, b1⟩
    have HB1 := Lib.hid (HB0.out.trans (b1.mono HB0.out.size))
    clear b1
    go_wp2_with fail
    go_at_call 9
    refine (awake_any _).mono ?_
    rintro e w2 ⟨rfl, b2⟩
    have HB2 := Lib.hid (HB1.out.trans (b2.mono HB1.out.size))
    clear b2
    go_wp2
    go_ret
    exact ⟨rfl, HB2.out⟩
  · have h1' : ¬ (256 : Int) < (s.size : Int) := by omega
    have h2' : (200 : Int) < (x.size : Int) := by omega
    clear hl
    go_enter Try.func6, Try.ntmps6
    go_wp2_with fail
    go_at_call 9
    refine (awake_any _).mono ?_
    rintro e w1 ⟨rfl, b1⟩
    have HB1 := Lib.hid (HB0.out.trans (b1.mono HB0.out.size))
    clear b1
    go_wp2_with fail
    go_at_call 9
    refine (awake_any _).mono ?_
    rintro e w2 ⟨rfl, b2⟩
    have HB2 := Lib.hid (HB1.out.trans (b2.mono HB1.out.size))
    clear b2
    go_wp2
    go_ret
    exact ⟨rfl, HB2.out⟩
set_option maxHeartbeats 2000000 in
theorem reads_wrong (c : Nat → Nat) (hc : ∀ i, c i < 256) (s x : ByteArray) (hs : s.size ≤ 256) (hx : x.size ≤ 200) (hR : ¬ Right c s.data.toList) (w : World) :
    Calls Try.prog 6 #[.agg (cnt c), .string s, .string x] w fun e w' => e = .returned (.bool true) ∧ Below w.heap.size w w' := by
  have hl' : ¬ (256 : Int) < (s.size : Int) := by omega
  have hl2 : ¬ (200 : Int) < (x.size : Int) := by omega
  have HB0 := Lib.hid (below_box w (.cells (cnt c) 22))
  have HR0 := Lib.hid (RowC.new c w)
  have HN := Lib.hid (New_no c hc s (by unfold maxLen; omega) hR)
  clear hR
  go_enter Try.func6, Try.ntmps6
  go_wp2_with fail
  go_at_call 9
  refine (awake_any _).mono ?_
  rintro e w1 ⟨rfl, b1⟩
  have HR1 := Lib.hid (HR0.out.on b1)
  have HB1 := Lib.hid (HB0.out.trans (b1.mono HB0.out.size))
  clear b1
  go_wp2_with (refine wpList_counts (by rfl) _ rfl w.heap.size rfl c HR1.out ?_)
  go_at_call 10
  refine (HN.out _).mono ?_
  rintro e w2 ⟨rfl, b2⟩
  have HB2 := Lib.hid (HB1.out.trans (b2.mono HB1.out.size))
  clear b2
  go_wp2
  go_ret
  exact ⟨rfl, HB2.out⟩

set_option maxRecDepth 100000 in
set_option maxHeartbeats 16000000 in
theorem reads_right (c : Nat → Nat) (hc : ∀ i, c i < 256) (s x : ByteArray) (hx : x.size ≤ 200) (hR : Right c s.data.toList) (w : World) :
    Calls Try.prog 6 #[.agg (cnt c), .string s, .string x] w fun e w' => e = .returned (.bool true) ∧ Below w.heap.size w w' := by
  have hs : s.size ≤ 256 := by have := hR.few; simpa using this
  have hs1 : 1 ≤ s.size := by have := hR.some; simpa using this
  have hl' : ¬ (256 : Int) < (s.size : Int) := by omega
  have hl2 : ¬ (200 : Int) < (x.size : Int) := by omega
  have HB0 := Lib.hid (below_box w (.cells (cnt c) 22))
  have HR0 := Lib.hid (RowC.new c w)
  have HN := Lib.hid (New_yes c hc s (by unfold maxLen; omega) hR)
  have HCD := Lib.hid (Codes_any c hc s (by omega))
  have HRR := Lib.hid hR
  have HCC := Lib.hid hc
  have HXM : Hid (x.size ≤ maxLen) := by unfold Hid maxLen; omega
  clear hR hc
  go_enter Try.func6, Try.ntmps6
  go_wp2_with fail
  go_at_call 9
  refine (awake_any _).mono ?_
  rintro e w1 ⟨rfl, b1⟩
  have HR1 := Lib.hid (HR0.out.on b1)
  have HB1 := Lib.hid (HB0.out.trans (b1.mono HB0.out.size))
  clear b1
  go_wp2_with (refine wpList_counts (by rfl) _ rfl w.heap.size rfl c HR1.out ?_)
  go_at_call 10
  refine (HN.out _).mono ?_
  rintro e w2 ⟨gt, rfl, t2, _, b2⟩
  have HR2 := Lib.hid (HR1.out.on b2)
  have HB2 := Lib.hid (HB1.out.trans (b2.mono HB1.out.size))
  have HT2 := Lib.hid t2
  clear b2 t2 hl' hl2 HN
  go_wp2_with (refine wpList_counts (by rfl) _ rfl w.heap.size rfl c HR2.out ?_)
  go_at_call 19
  refine (HCD.out _).mono ?_
  rintro e w3 ⟨⟨_, v, rfl, o3⟩ | ⟨hr, _⟩, b3⟩
  case inr => exact absurd HRR.out hr
  have HB3 := Lib.hid (HB2.out.trans (b3.mono HB2.out.size))
  have HT3 := Lib.hid (HT2.out.on b3)
  obtain ⟨p, q, hv⟩ := o3.len
  have hlen : (codes c s.data.toList 16).length = s.size := by rw [codes_length, HRR.out.sum]; simp
  rw [hlen] at hv
  subst hv
  obtain ⟨g, rfl, _⟩ := codes_cells rfl o3 HRR.out.sum (by omega)
  have HO3 := Lib.hid o3
  clear b3 o3 hlen
  generalize w2.heap.size = Bc at *
  go_wp2_with fail
  go_at_call 14
  refine (NewReader_bits x HXM.out w3).mono ?_
  rintro e w4 ⟨rfl, c4, b4⟩
  have HK4 : Hid (Kit w3.heap.size x (stream x.data.toList 0) gt c s Bc g q w4) := ⟨c4, HT3.out.on b4, HO3.out.below b4⟩
  have HB4 := Lib.hid (HB3.out.trans (b4.mono HB3.out.size))
  have HRU := Lib.hid HB3.out.size
  clear c4 b4 HT3 HO3
  generalize w3.heap.size = r at *
  generalize huu : w.heap.size = u at *
  have HUU := Lib.hid huu
  clear huu
  go_wp2
  have hb5 := below_box w4 (.cells #[.string x, .int .i64 0, .slice none 0 0] 52)
  have HX5 : Hid (Box w4.heap.size x 0 (.slice none 0 0) (w4.alloc (.cells #[.string x, .int .i64 0, .slice none 0 0] 52))) := heap_alloc_new _ _
  have HK5 := Lib.hid (HK4.out.on hb5)
  have HB5 : Hid (Below u w (w4.alloc (.cells #[.string x, .int .i64 0, .slice none 0 0] 52))) := HB4.out.trans (hb5.mono (by rw [← HUU.out]; exact HB4.out.size))
  have HS5 : Hid (u ≤ (w4.alloc (.cells #[.string x, .int .i64 0, .slice none 0 0] 52)).heap.size) := by have := HB5.out.size; unfold Hid; rw [← HUU.out]; exact this
  have HKM : Hid (u ≤ w4.heap.size) := by unfold Hid; rw [← HUU.out]; exact HB4.out.size
  clear hb5 HK4 HB4
  generalize hkm : w4.heap.size = km at *
  generalize w4.alloc (.cells #[.string x, .int .i64 0, .slice none 0 0] 52) = w5 at *
  clear hkm
  go_loopw [12, 14] (fun v i wr => ∃ (a : Nat) (P H : List Bool) (p : Option Addr) (cp : Nat), i = .int .i64 (P.length : Nat) ∧ P.length ≤ 8 * x.size ∧ P ++ (H ++ stream x.data.toList a) = stream x.data.toList 0 ∧ a ≤ x.size ∧ H.length < 8 ∧ OwnI u v P wr ∧ Box km x a (.slice p H.length cp) wr ∧ View (.slice p H.length cp) H wr ∧ Kit r x (stream x.data.toList 0) gt c s Bc g q wr ∧ Below u w wr ∧ u ≤ wr.heap.size) (fun _ i _ => 8 * x.size - (intOf i).toNat)
  case atStart => exact ⟨0, [], [], none, 0, rfl, Nat.zero_le _, rfl, Nat.zero_le _, by decide, World.ownsRow_nil _ _ _ _, HX5.out, ⟨none, 0, rfl, .inl ⟨rfl, rfl, rfl⟩⟩, HK5.out, HB5.out, HS5.out⟩
  case round =>
    obtain ⟨a, P, H, p, cp, rfl, hP, hst, ha, hH, hO, hX, hV, hK, hB, hU⟩ := hrel
    have HST := Lib.hid hst
    have HO := Lib.hid hO
    have HX := Lib.hid hX
    have HV := Lib.hid hV
    have HK := Lib.hid hK
    have HB := Lib.hid hB
    have x0 := hX.text
    have x1 := hX.at
    have x2 := hX.held
    clear hst hO hX hV hK hB HX5 HK5 HB5 HS5
    cases hrest : H ++ stream x.data.toList a with
    | cons b S =>
      have hPl : P.length < 8 * x.size := by
        have h1 := stream_length x.data.toList
        have h2 := congrArg List.length HST.out
        rw [hrest, List.length_append, List.length_cons] at h2
        have h3 : x.data.toList.length = x.size := by simp
        omega
      have HST2 : Hid ((P ++ [b]) ++ S = stream x.data.toList 0) := by unfold Hid; rw [← HST.out, hrest]; simp
      have HC := Lib.hid (RBit_cons x a p cp H wr HV.out (by omega) ha hH b S hrest)
      have hPI : (P.length : Int) < 8 * (x.size : Int) := by omega
      clear hrest
      go_wp2_with fail
      go_at_call 21
      refine HC.out.mono ?_
      rintro e w6 ⟨p', cp', a', H', rfl, v6, hp6, ha', hH', hS', b6⟩
      have HB6 : Hid (Below u w w6) := HB.out.trans (b6.mono hU)
      have hU6 : u ≤ w6.heap.size := Nat.le_trans hU b6.size
      have HV6 := Lib.hid v6
      have HA6 := Lib.hid (HO.out.apart (n := H'.length) (c := cp') hp6)
      have HO6 := Lib.hid (HO.out.below b6)
      have HX6 := Lib.hid (HX.out.on b6)
      have HK6 := Lib.hid (HK.out.on b6)
      have HS' := Lib.hid hS'
      clear v6 hp6 hS' b6 HC x0 x1 x2 HV HO HX HK HB
      have hb1 : b.toNat ≤ 1 := by cases b <;> simp
      have hb7 := below_box w6 (.cells #[.string x, .int .i64 a', .slice p' H'.length cp'] 52)
      have HY7 : Hid (Box w6.heap.size x a' (.slice p' H'.length cp') (w6.alloc (.cells #[.string x, .int .i64 a', .slice p' H'.length cp'] 52))) := heap_alloc_new _ _
      have HO7 := Lib.hid (HO6.out.below hb7)
      have HX7 := Lib.hid (HX6.out.on hb7)
      have HK7 := Lib.hid (HK6.out.on hb7)
      have HV7 := Lib.hid (HV6.out.on hb7)
      have HB7 : Hid (Below u w (w6.alloc (.cells #[.string x, .int .i64 a', .slice p' H'.length cp'] 52))) := HB6.out.trans (hb7.mono hU6)
      have hU7 : u ≤ (w6.alloc (.cells #[.string x, .int .i64 a', .slice p' H'.length cp'] 52)).heap.size := Nat.le_trans hU6 hb7.size
      clear hb7 HO6 HX6 HK6 HV6 HB6
      go_upto_region 15 with fail
      generalize hk7 : w6.heap.size = k7 at *
      generalize w6.alloc (.cells #[.string x, .int .i64 a', .slice p' H'.length cp'] 52) = w7 at *
      clear hk7
      go_wp2_with (at_builtin; refine wpList_appI2 rfl _ _ rfl u u12 P b rfl rfl HO7.out (by omega) hU7 ?_)
      intro v8 w8 o8 b8 k8 i8
      have HO8 := Lib.hid o8
      have HY8 := Lib.hid (HY7.out.oth k8)
      have HX8 := Lib.hid (HX7.out.oth k8)
      have HK8 := Lib.hid (HK7.out.othI k8)
      have HV8 := Lib.hid (i8 _ _ HV7.out HA6.out)
      have HB8 : Hid (Below u w w8) := HB7.out.trans b8
      have hU8 : u ≤ w8.heap.size := Nat.le_trans hU7 b8.size
      have y0 := HY8.out.text
      have y1 := HY8.out.at
      have y2 := HY8.out.held
      have z0 := HX8.out.text
      have z1 := HX8.out.at
      have z2 := HX8.out.held
      have f0 := HX8.out.free 0
      have f1 := HX8.out.free 1
      have f2 := HX8.out.free 2
      clear o8 b8 k8 i8
      have HLP := Lib.hid (show (P ++ [b]).length = P.length + 1 by simp)
      have hbt : But km w8 (((w8.setCell ⟨km, 0, none⟩ (.string x)).setCell ⟨km, 1, none⟩ (.int .i64 a')).setCell ⟨km, 2, none⟩ (.slice p' H'.length cp')) := but_set3 _ _ _
      have HX9 := Lib.hid (HX8.out.set x a' a' rfl (.slice p' H'.length cp'))
      have HO9 := Lib.hid (HO8.out.but HX8.out hbt)
      have HV9 := Lib.hid (HV8.out.but hbt HX8.out (by decide))
      have HK9 := Lib.hid (HK8.out.but HX8.out hbt)
      have HB9 := Lib.hid (below_set3 HB8.out HKM.out (.string x) (.int .i64 a') (.slice p' H'.length cp'))
      have HU9 := Lib.hid (Nat.le_trans hU8 hbt.size)
      clear hbt
      go_wp2
      go_roundw
      case rel => exact ⟨a', P ++ [b], H', p', cp', by rw [HLP.out]; go_num, by rw [HLP.out]; omega, by rw [HS'.out]; exact HST2.out, ha', hH', HO9.out, HX9.out, HV9.out, HK9.out, HB9.out, HU9.out⟩
      case measure => simp [intOf]; omega
    | nil =>
      have hPS : P = stream x.data.toList 0 := by rw [← HST.out, hrest, List.append_nil]
      have HC := Lib.hid (RBit_nil x a p cp H wr HV.out (by omega) ha hH hrest)
      have hview := HO.out.view
      have hcapx : ∃ q' cq', u12 = .slice q' P.length cq' ∧ P.length ≤ cq' := by
        rcases HO.out.2 with ⟨h1, h2⟩ | ⟨g', cap, cur, h1, _, _, h2, _⟩
        · exact ⟨none, 0, by rw [h1, h2], by omega⟩
        · exact ⟨_, cap, h1, h2⟩
      obtain ⟨q', cq', rfl, hcq⟩ := hcapx
      have hPl : P.length ≤ 2000 := by omega
      rw [← hPS] at HK
      have HVW := Lib.hid hview
      clear hrest hview hPS HST HV HO
      by_cases hPlt : P.length < 8 * x.size
      · have hPI : (P.length : Int) < 8 * (x.size : Int) := by omega
        go_wp2_with fail
        go_at_call 21
        refine HC.out.mono ?_
        rintro e w6 ⟨p', cp', rfl, b6⟩
        have HB6 : Hid (Below u w w6) := HB.out.trans (b6.mono hU)
        have hU6 : u ≤ w6.heap.size := Nat.le_trans hU b6.size
        have HK6 := Lib.hid (HK.out.on b6)
        have HV6 := Lib.hid (HVW.out.on b6)
        clear b6 HC x0 x1 x2 HX HK HB HVW
        have hb7 := below_box w6 (.cells #[.string x, .int .i64 a, .slice p' H.length cp'] 52)
        have HK7 := Lib.hid (HK6.out.on hb7)
        have HV7 := Lib.hid (HV6.out.on hb7)
        have HB7 : Hid (Below u w (w6.alloc (.cells #[.string x, .int .i64 a, .slice p' H.length cp'] 52))) := HB6.out.trans (hb7.mono hU6)
        have hU7 : u ≤ (w6.alloc (.cells #[.string x, .int .i64 a, .slice p' H.length cp'] 52)).heap.size := Nat.le_trans hU6 hb7.size
        clear hb7 HK6 HV6 HB6
        go_wp2
        generalize w6.alloc (.cells #[.string x, .int .i64 a, .slice p' H.length cp'] 52) = w7 at *
        go_loopw [12] (fun v wq => ∃ (U : List Bool) (p1 : Option Addr) (c1 : Nat), v = .slice p1 U.length c1 ∧ U.length ≤ c1 ∧ U.length ≤ 2000 ∧ View (.slice p1 U.length c1) U wq ∧ Kit r x U gt c s Bc g q wq ∧ Below u w wq ∧ u ≤ wq.heap.size) (fun v _ => match v with | .slice _ m _ => m | _ => 0)
        case atStart => exact ⟨P, q', cq', rfl, hcq, hPl, HV7.out, HK7.out, HB7.out, hU7⟩
        case round =>
          obtain ⟨U, p1, c1, rfl, hc1, hUl, hV, hK, hB, hU1⟩ := hrel
          have hN := Next_any gt r c HCC.out s HRR.out x HXM.out U wr hK.tb hK.rd
          have hM := fun W hO hV => RNext_any Bc g q c HCC.out s HRR.out p1 c1 U hUl W hO hV
          have hrest := decode_rest c s.data.toList U
          have HV := Lib.hid hV
          have HK := Lib.hid hK
          have HB := Lib.hid hB
          clear hV hK hB
          generalize decode c s.data.toList U = D at *
          obtain ⟨d1, d2, d3, d4⟩ := D
          simp only at hN hM hrest
          have HN := Lib.hid hN
          have HM := Lib.hid hM
          clear hN hM
          go_wp2_with fail
          go_at_call 16
          refine HN.out.mono ?_
          rintro e w8 ⟨rfl, c8, b8⟩
          obtain ⟨cs, fz, hcs⟩ := HK.out.rd.cells
          have HV8 := Lib.hid (HV.out.but b8 hcs (by decide))
          have HK8 : Hid (Kit r x d4 gt c s Bc g q w8) := ⟨c8, HK.out.rd.tbl HK.out.tb b8, HK.out.oc.but hcs (by decide) b8⟩
          have HB8 : Hid (Below u w w8) := HB.out.trans (b8.below HRU.out hU1)
          have hU8 : u ≤ w8.heap.size := Nat.le_trans hU1 b8.size
          clear c8 b8 hcs HV HK HB
          go_wp2_with fail
          go_at_call 22
          refine (HM.out w8 HK8.out.oc HV8.out).mono ?_
          rintro e w' ⟨rfl, rfl⟩
          by_cases hd : d3 = 0
          · subst hd
            obtain ⟨r1, r2, r3⟩ := hrest rfl
            have hvd := HV8.out.drop (k := d2) r2 hc1
            have HLD := Lib.hid (show (U.drop d2).length = U.length - d2 from List.length_drop)
            rw [HLD.out] at hvd
            have HVD := Lib.hid hvd
            have HR3 := Lib.hid r3
            clear hvd r3 hrest
            go_wp2
            generalize (if c1 = d2 then p1 else Option.map (fun x => x.add d2) p1) = p2 at *
            go_roundw
            case rel => exact ⟨U.drop d2, p2, c1 - d2, by rw [HLD.out], by rw [HLD.out]; omega, by rw [HLD.out]; omega, by rw [HLD.out]; exact HVD.out, by rw [← HR3.out]; exact HK8.out, HB8.out, hU8⟩
            case measure => simp only []; omega
          · have hd' : ((d3 : Int) != 0) = true := by rw [bne_iff_ne]; omega
            clear hd hrest
            go_wp2
            go_ret
            exact ⟨rfl, by rw [HUU.out]; exact HB8.out⟩
      · have hPI : ¬ (P.length : Int) < 8 * (x.size : Int) := by omega
        have HK7 := HK
        have HV7 := HVW
        have HB7 := HB
        have hU7 := hU
        clear HC x0 x1 x2 HX HK HB HVW
        go_wp2
        go_loopw [12] (fun v wq => ∃ (U : List Bool) (p1 : Option Addr) (c1 : Nat), v = .slice p1 U.length c1 ∧ U.length ≤ c1 ∧ U.length ≤ 2000 ∧ View (.slice p1 U.length c1) U wq ∧ Kit r x U gt c s Bc g q wq ∧ Below u w wq ∧ u ≤ wq.heap.size) (fun v _ => match v with | .slice _ m _ => m | _ => 0)
        case atStart => exact ⟨P, q', cq', rfl, hcq, hPl, HV7.out, HK7.out, HB7.out, hU7⟩
        case round =>
          obtain ⟨U, p1, c1, rfl, hc1, hUl, hV, hK, hB, hU1⟩ := hrel
          have hN := Next_any gt r c HCC.out s HRR.out x HXM.out U wr hK.tb hK.rd
          have hM := fun W hO hV => RNext_any Bc g q c HCC.out s HRR.out p1 c1 U hUl W hO hV
          have hrest := decode_rest c s.data.toList U
          have HV := Lib.hid hV
          have HK := Lib.hid hK
          have HB := Lib.hid hB
          clear hV hK hB
          generalize decode c s.data.toList U = D at *
          obtain ⟨d1, d2, d3, d4⟩ := D
          simp only at hN hM hrest
          have HN := Lib.hid hN
          have HM := Lib.hid hM
          clear hN hM
          go_wp2_with fail
          go_at_call 16
          refine HN.out.mono ?_
          rintro e w8 ⟨rfl, c8, b8⟩
          obtain ⟨cs, fz, hcs⟩ := HK.out.rd.cells
          have HV8 := Lib.hid (HV.out.but b8 hcs (by decide))
          have HK8 : Hid (Kit r x d4 gt c s Bc g q w8) := ⟨c8, HK.out.rd.tbl HK.out.tb b8, HK.out.oc.but hcs (by decide) b8⟩
          have HB8 : Hid (Below u w w8) := HB.out.trans (b8.below HRU.out hU1)
          have hU8 : u ≤ w8.heap.size := Nat.le_trans hU1 b8.size
          clear c8 b8 hcs HV HK HB
          go_wp2_with fail
          go_at_call 22
          refine (HM.out w8 HK8.out.oc HV8.out).mono ?_
          rintro e w' ⟨rfl, rfl⟩
          by_cases hd : d3 = 0
          · subst hd
            obtain ⟨r1, r2, r3⟩ := hrest rfl
            have hvd := HV8.out.drop (k := d2) r2 hc1
            have HLD := Lib.hid (show (U.drop d2).length = U.length - d2 from List.length_drop)
            rw [HLD.out] at hvd
            have HVD := Lib.hid hvd
            have HR3 := Lib.hid r3
            clear hvd r3 hrest
            go_wp2
            generalize (if c1 = d2 then p1 else Option.map (fun x => x.add d2) p1) = p2 at *
            go_roundw
            case rel => exact ⟨U.drop d2, p2, c1 - d2, by rw [HLD.out], by rw [HLD.out]; omega, by rw [HLD.out]; omega, by rw [HLD.out]; exact HVD.out, by rw [← HR3.out]; exact HK8.out, HB8.out, hU8⟩
            case measure => simp only []; omega
          · have hd' : ((d3 : Int) != 0) = true := by rw [bne_iff_ne]; omega
            clear hd hrest
            go_wp2
            go_ret
            exact ⟨rfl, by rw [HUU.out]; exact HB8.out⟩
theorem HuffReads_any (c : Nat → Nat) (s x : ByteArray) (w : World) (hc : ∀ i, c i < 256) (hs : s.size ≤ maxLen) (hx : x.size ≤ maxLen) :
    Calls Try.prog 6 #[.agg (cnt c), .string s, .string x] w fun e w' => e = .returned (.bool true) ∧ Below w.heap.size w w' := by
  by_cases h : 256 < s.size ∨ 200 < x.size
  · exact reads_far c s x hs hx h w
  · by_cases hR : Right c s.data.toList
    · exact reads_right c hc s x (by omega) hR w
    · exact reads_wrong c hc s x (by omega) (by omega) hR w
end Go.Proofs.Ytmoennlpendknaa
