/- A walk: whether any counts and symbols are a table, and all its codes, are the document's. -/
import Derived.Test.YtmoennlpendknaaRFind
import Derived.Test.YtmoennlpendknaaHPre
namespace Go.Proofs.Ytmoennlpendknaa
open Go.RowKit

set_option maxHeartbeats 2000000 in
theorem tab_far (c : Nat → Nat) (s : ByteArray) (hs : s.size ≤ maxLen) (hl : 300 < s.size) (z : Int) (w : World) :
    Calls Try.prog 5 #[.agg (cnt c), .string s, .int .i64 z] w fun e w' => e = .returned (.bool true) ∧ Below w.heap.size w w' := by
  unfold maxLen at hs
  have hl' : (300 : Int) < (s.size : Int) := by omega
  have HB0 := Lib.hid (below_box w (.cells (cnt c) 22))
  go_enter Try.func5, Try.ntmps5
  go_wp2_with fail
  go_at_call 9
  refine (awake_any _).mono ?_
  rintro e w1 ⟨rfl, b1⟩
  have HB1 := Lib.hid (HB0.out.trans (b1.mono HB0.out.size))
  clear b1
  go_wp2_with fail
  go_at_call 9
  refine (awake_any _).mono ?_
  rintro e w2 ⟨rfl, b2⟩
  have HB2 := Lib.hid (HB1.out.trans (b2.mono HB1.out.size))
  clear b2
  go_wp2
  go_ret
  exact ⟨rfl, HB2.out⟩
set_option maxRecDepth 100000 in
set_option maxHeartbeats 2000000 in
theorem tab_wrong (c : Nat → Nat) (hc : ∀ i, c i < 256) (s : ByteArray) (hs : s.size ≤ 300) (hR : ¬ Right c s.data.toList) (z : Int) (w : World) :
    Calls Try.prog 5 #[.agg (cnt c), .string s, .int .i64 z] w fun e w' => e = .returned (.bool true) ∧ Below w.heap.size w w' := by
  have hl' : ¬ (300 : Int) < (s.size : Int) := by omega
  have HB0 := Lib.hid (below_box w (.cells (cnt c) 22))
  have HR0 := Lib.hid (RowC.new c w)
  have HN := Lib.hid (New_no c hc s (by unfold maxLen; omega) hR)
  have HCD := Lib.hid (Codes_any c hc s hs)
  have HNR := Lib.hid hR
  clear hR
  go_enter Try.func5, Try.ntmps5
  go_wp2_with fail
  go_at_call 9
  refine (awake_any _).mono ?_
  rintro e w1 ⟨rfl, b1⟩
  have HR1 := Lib.hid (HR0.out.on b1)
  have HB1 := Lib.hid (HB0.out.trans (b1.mono HB0.out.size))
  clear b1
  go_wp2_with (refine wpList_counts (by rfl) _ rfl w.heap.size rfl c HR1.out ?_)
  go_at_call 10
  refine (HN.out _).mono ?_
  rintro e w2 ⟨rfl, b2⟩
  have HR2 := Lib.hid (HR1.out.on b2)
  have HB2 := Lib.hid (HB1.out.trans (b2.mono HB1.out.size))
  clear b2 hl'
  go_wp2_with (refine wpList_counts (by rfl) _ rfl w.heap.size rfl c HR2.out ?_)
  go_at_call 19
  refine (HCD.out _).mono ?_
  rintro e w3 ⟨⟨hr, _⟩ | ⟨_, rfl⟩, b3⟩
  · exact absurd hr HNR.out
  have HB3 := Lib.hid (HB2.out.trans (b3.mono HB2.out.size))
  clear b3
  go_wp2
  go_loop [11] (fun i => i = .int .i64 0) (fun _ => 0)
  case atStart => rfl
  case round =>
    subst hrel
    go_wp2_with (go_at_call 12; refine (Code_nil z _).mono ?_; rintro e w' ⟨rfl, rfl⟩)
    go_at_call 20
    refine (Find_nil z _).mono ?_
    rintro e w4 ⟨rfl, b4⟩
    have HB4 := Lib.hid (HB3.out.trans (b4.mono HB3.out.size))
    clear b4
    go_wp2
    go_ret
    exact ⟨rfl, HB4.out.alloc HB4.out.size _⟩
set_option maxRecDepth 100000 in
set_option maxHeartbeats 4000000 in
theorem tab_right (c : Nat → Nat) (hc : ∀ i, c i < 256) (s : ByteArray) (hR : Right c s.data.toList) (z : Int) (A X L : Nat) (ok : Bool) (w : World)
    (hC : ∀ g W, Tbl g c s W → Calls Try.prog 12 #[.pointer (some ⟨g, 0, none⟩), .int .i64 z] W fun e w' => e = .returned (.tuple #[.int .i64 X, .int .i64 L, .bool ok]) ∧ W = w')
    (hF : ∀ B g q W, OwnC B (.slice (some ⟨g, 0, none⟩) s.size q) (codes c s.data.toList 16) W → Calls Try.prog 20 #[.slice (some ⟨g, 0, none⟩) s.size q, .int .i64 z] W fun e w' => e = .returned (.tuple #[.agg #[.int .i64 A, .int .i64 X, .int .i64 L], .bool ok]) ∧ Below W.heap.size W w') :
    Calls Try.prog 5 #[.agg (cnt c), .string s, .int .i64 z] w fun e w' => e = .returned (.bool true) ∧ Below w.heap.size w w' := by
  have hs : s.size ≤ 256 := by have := hR.few; simpa using this
  have hs1 : 1 ≤ s.size := by have := hR.some; simpa using this
  have hl' : ¬ (300 : Int) < (s.size : Int) := by omega
  have HB0 := Lib.hid (below_box w (.cells (cnt c) 22))
  have HR0 := Lib.hid (RowC.new c w)
  have HN := Lib.hid (New_yes c hc s (by unfold maxLen; omega) hR)
  have HCD := Lib.hid (Codes_any c hc s (by omega))
  have HRR := Lib.hid hR
  have HCC := Lib.hid hc
  have HC := Lib.hid hC
  have HF := Lib.hid hF
  clear hR hc hC hF
  go_enter Try.func5, Try.ntmps5
  go_wp2_with fail
  go_at_call 9
  refine (awake_any _).mono ?_
  rintro e w1 ⟨rfl, b1⟩
  have HR1 := Lib.hid (HR0.out.on b1)
  have HB1 := Lib.hid (HB0.out.trans (b1.mono HB0.out.size))
  clear b1
  go_wp2_with (refine wpList_counts (by rfl) _ rfl w.heap.size rfl c HR1.out ?_)
  go_at_call 10
  refine (HN.out _).mono ?_
  rintro e w2 ⟨gt, rfl, t2, _, b2⟩
  have HR2 := Lib.hid (HR1.out.on b2)
  have HB2 := Lib.hid (HB1.out.trans (b2.mono HB1.out.size))
  have HT2 := Lib.hid t2
  clear b2 t2 hl'
  go_wp2_with (refine wpList_counts (by rfl) _ rfl w.heap.size rfl c HR2.out ?_)
  go_at_call 19
  refine (HCD.out _).mono ?_
  rintro e w3 ⟨⟨_, v, rfl, o3⟩ | ⟨hr, _⟩, b3⟩
  case inr => exact absurd HRR.out hr
  have HB3 := Lib.hid (HB2.out.trans (b3.mono HB2.out.size))
  have HT3 := Lib.hid (HT2.out.on b3)
  obtain ⟨p, q, hv⟩ := o3.len
  have hlen : (codes c s.data.toList 16).length = s.size := by rw [codes_length, HRR.out.sum]; simp
  rw [hlen] at hv
  subst hv
  obtain ⟨g, rfl, hcl⟩ := codes_cells rfl o3 HRR.out.sum (by omega)
  have HCL := Lib.hid (hcl w3 o3)
  have HO3 := Lib.hid o3
  clear b3 o3 hcl hlen
  go_wp2
  go_loop [11] (fun i => ∃ j : Nat, j ≤ s.size ∧ i = .int .i64 j) (fun i => s.size - (intOf i).toNat)
  case atStart => exact ⟨0, Nat.zero_le _, rfl⟩
  case round =>
    obtain ⟨j, hj, rfl⟩ := hrel
    by_cases hlt : j < s.size
    · obtain ⟨y0, y1, y2⟩ := HCL.out j hlt
      have HCJ := Lib.hid (Code_yes gt c HCC.out s HRR.out j hlt w3 HT3.out)
      generalize codeN c j = Xj at *
      generalize codeL c j = Lj at *
      go_wp2_with (go_at_call 12; refine HCJ.out.mono ?_; rintro e w' ⟨rfl, rfl⟩)
      go_round
      case rel => exact ⟨j + 1, by omega, by go_num⟩
      case measure => simp [intOf]; omega
    · obtain rfl : j = s.size := by omega
      have HC3 := Lib.hid (HC.out gt w3 HT3.out)
      have HF3 := Lib.hid (HF.out _ g q w3 HO3.out)
      clear hlt
      go_wp2_with (go_at_call 12; refine HC3.out.mono ?_; rintro e w' ⟨rfl, rfl⟩)
      go_at_call 20
      refine HF3.out.mono ?_
      rintro e w4 ⟨rfl, b4⟩
      have HB4 := Lib.hid (HB3.out.trans (b4.mono HB3.out.size))
      clear b4
      cases ok
      all_goals
        go_wp2
        go_ret
        exact ⟨rfl, HB4.out.alloc HB4.out.size _⟩
theorem HuffTables_any (c : Nat → Nat) (s : ByteArray) (z : Int) (w : World) (hc : ∀ i, c i < 256) (hs : s.size ≤ maxLen) :
    Calls Try.prog 5 #[.agg (cnt c), .string s, .int .i64 z] w fun e w' => e = .returned (.bool true) ∧ Below w.heap.size w w' := by
  by_cases h : 300 < s.size
  · exact tab_far c s hs h z w
  by_cases hR : Right c s.data.toList
  · by_cases hz : z < 0 ∨ 256 ≤ z
    · refine tab_right c hc s hR z 0 0 0 false w (fun g W _ => Code_out g z hz W) (fun B g q W hO => Find_no B g q c s hR z (fun i hi e => ?_) W hO)
      have := s[i].toNat_lt
      omega
    · obtain ⟨x, rfl⟩ := Int.eq_ofNat_of_zero_le (show 0 ≤ z by omega)
      rcases at_or s x (by omega) with ⟨i, hi, rfl⟩ | hno
      · exact tab_right c hc s hR _ _ _ _ true w (fun g W hT => Code_yes g c hc s hR i hi W hT) (fun B g q W hO => Find_yes B g q c hc s hR i hi W hO)
      · refine tab_right c hc s hR x 0 0 0 false w (fun g W hT => Code_no g c s x (by omega) hno W hT) (fun B g q W hO => Find_no B g q c s hR x (fun i hi e => hno ?_) W hO)
        have e2 : s[i].toNat = x := by omega
        have e3 : x.toUInt8 = s[i] := by rw [← e2]; simp
        rw [e3]
        exact List.getElem_mem (l := s.data.toList) (n := i) (by simpa using hi)
  · exact tab_wrong c hc s (by omega) hR z w
end Go.Proofs.Ytmoennlpendknaa
