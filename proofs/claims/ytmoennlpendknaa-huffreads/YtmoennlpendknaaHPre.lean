/- A walk: no code is a beginning of another one. -/
import Derived.Test.YtmoennlpendknaaHNil
namespace Go.Proofs.Ytmoennlpendknaa
open Go.RowKit

/-- A byte stands among the symbols, or doesn't. -/
theorem at_or (s : ByteArray) (x : Nat) (hx : x < 256) : (∃ i, ∃ h : i < s.size, x = s[i].toNat) ∨ x.toUInt8 ∉ s.data.toList := by
  by_cases h : x.toUInt8 ∈ s.data.toList
  · obtain ⟨i, hi, e⟩ := List.mem_iff_getElem.1 h
    refine .inl ⟨i, by simpa using hi, ?_⟩
    have e' : s[i]'(by simpa using hi) = x.toUInt8 := e
    rw [e']
    simp
    omega
  · exact .inr h
set_option maxHeartbeats 2000000 in
theorem pre_far (c : Nat → Nat) (s : ByteArray) (hs : s.size ≤ maxLen) (hl : 256 < s.size) (a b : Nat) (w : World) :
    Calls Try.prog 4 #[.agg (cnt c), .string s, .int .u8 a, .int .u8 b] w fun e w' => e = .returned (.bool true) ∧ Below w.heap.size w w' := by
  unfold maxLen at hs
  have hl' : (256 : Int) < (s.size : Int) := by omega
  have HB0 := Lib.hid (below_box w (.cells (cnt c) 22))
  go_enter Try.func4, Try.ntmps4
  go_wp2_with fail
  go_at_call 9
  refine (awake_any _).mono ?_
  rintro e w1 ⟨rfl, b1⟩
  have HB1 := Lib.hid (HB0.out.trans (b1.mono HB0.out.size))
  clear b1
  go_wp2_with fail
  go_at_call 9
  refine (awake_any _).mono ?_
  rintro e w2 ⟨rfl, b2⟩
  have HB2 := Lib.hid (HB1.out.trans (b2.mono HB1.out.size))
  clear b2
  go_wp2
  go_ret
  exact ⟨rfl, HB2.out⟩
set_option maxHeartbeats 2000000 in
theorem pre_wrong (c : Nat → Nat) (hc : ∀ i, c i < 256) (s : ByteArray) (hs : s.size ≤ 256) (hR : ¬ Right c s.data.toList) (a b : Nat) (w : World) :
    Calls Try.prog 4 #[.agg (cnt c), .string s, .int .u8 a, .int .u8 b] w fun e w' => e = .returned (.bool true) ∧ Below w.heap.size w w' := by
  have hl' : ¬ (256 : Int) < (s.size : Int) := by omega
  have HB0 := Lib.hid (below_box w (.cells (cnt c) 22))
  have HR0 := Lib.hid (RowC.new c w)
  have HN := Lib.hid (New_no c hc s (by unfold maxLen; omega) hR)
  clear hR
  go_enter Try.func4, Try.ntmps4
  go_wp2_with fail
  go_at_call 9
  refine (awake_any _).mono ?_
  rintro e w1 ⟨rfl, b1⟩
  have HR1 := Lib.hid (HR0.out.on b1)
  have HB1 := Lib.hid (HB0.out.trans (b1.mono HB0.out.size))
  clear b1
  go_wp2_with (refine wpList_counts (by rfl) _ rfl w.heap.size rfl c HR1.out ?_)
  go_at_call 10
  refine (HN.out _).mono ?_
  rintro e w2 ⟨rfl, b2⟩
  have HB2 := Lib.hid (HB1.out.trans (b2.mono HB1.out.size))
  clear b2
  go_wp2
  go_ret
  exact ⟨rfl, HB2.out⟩
/-- The way to the two codes. -/
theorem ones_code (x m : Nat) (hm : m ≤ 16) (h : x + 1 < 2 ^ m) : (x : Int) < wrap64 (wrap64 (2 ^ m) - 1) := by
  have h1 := pow_le24 m (by omega)
  rw [wrap_pow m (by omega), wrap64_small _ (by omega) (by omega)]
  omega
set_option maxHeartbeats 1000000 in
theorem pre_same (c : Nat → Nat) (hc : ∀ i, c i < 256) (s : ByteArray) (hR : Right c s.data.toList) (a b : Nat) (ha : a < 256) (hb : b < 256) (X M Y N : Nat) (hM : M ≤ 16) (ho : (X : Int) < wrap64 (wrap64 (2 ^ M) - 1)) (hab : ((a : Int) == (b : Int)) = true) (w : World)
    (hC : ∀ g W, Tbl g c s W → Calls Try.prog 12 #[.pointer (some ⟨g, 0, none⟩), .int .i64 a] W fun e w' => e = .returned (.tuple #[.int .i64 X, .int .i64 M, .bool true]) ∧ W = w')
    (hD : ∀ g W, Tbl g c s W → Calls Try.prog 12 #[.pointer (some ⟨g, 0, none⟩), .int .i64 b] W fun e w' => e = .returned (.tuple #[.int .i64 Y, .int .i64 N, .bool true]) ∧ W = w') :
    Calls Try.prog 4 #[.agg (cnt c), .string s, .int .u8 a, .int .u8 b] w fun e w' => e = .returned (.bool true) ∧ Below w.heap.size w w' := by
  have hs : s.size ≤ 256 := by have := hR.few; simpa using this
  have hl' : ¬ (256 : Int) < (s.size : Int) := by omega
  have HB0 := Lib.hid (below_box w (.cells (cnt c) 22))
  have HR0 := Lib.hid (RowC.new c w)
  have HN := Lib.hid (New_yes c hc s (by unfold maxLen; omega) hR)
  have HC := Lib.hid hC
  have HD := Lib.hid hD
  clear hR hc hC hD
  go_enter Try.func4, Try.ntmps4
  go_wp2_with fail
  go_at_call 9
  refine (awake_any _).mono ?_
  rintro e w1 ⟨rfl, b1⟩
  have HR1 := Lib.hid (HR0.out.on b1)
  have HB1 := Lib.hid (HB0.out.trans (b1.mono HB0.out.size))
  clear b1
  go_wp2_with (refine wpList_counts (by rfl) _ rfl w.heap.size rfl c HR1.out ?_)
  go_at_call 10
  refine (HN.out _).mono ?_
  rintro e w2 ⟨g, rfl, t2, _, b2⟩
  have HB2 := Lib.hid (HB1.out.trans (b2.mono HB1.out.size))
  have HC2 := Lib.hid (HC.out g w2 t2)
  have HD2 := Lib.hid (HD.out g w2 t2)
  clear b2 t2 hl' HN HC HD hs
  go_wp2_with fail
  go_at_call 12
  refine HC2.out.mono ?_
  rintro e w' ⟨rfl, rfl⟩
  go_wp2_with fail
  go_at_call 12
  refine HD2.out.mono ?_
  rintro e w' ⟨rfl, rfl⟩
  go_wp2
  go_ret
  exact ⟨rfl, HB2.out⟩
set_option maxHeartbeats 1000000 in
theorem pre_left (c : Nat → Nat) (hc : ∀ i, c i < 256) (s : ByteArray) (hR : Right c s.data.toList) (a b : Nat) (ha : a < 256) (hb : b < 256) (X M Y N : Nat) (hM : M ≤ 16) (hN : N ≤ 16) (hMN : N < M) (hq : ((X : Int) / 2 ^ (M - N) != (Y : Int)) = true) (hab : ((a : Int) == (b : Int)) = false) (w : World)
    (hC : ∀ g W, Tbl g c s W → Calls Try.prog 12 #[.pointer (some ⟨g, 0, none⟩), .int .i64 a] W fun e w' => e = .returned (.tuple #[.int .i64 X, .int .i64 M, .bool true]) ∧ W = w')
    (hD : ∀ g W, Tbl g c s W → Calls Try.prog 12 #[.pointer (some ⟨g, 0, none⟩), .int .i64 b] W fun e w' => e = .returned (.tuple #[.int .i64 Y, .int .i64 N, .bool true]) ∧ W = w') :
    Calls Try.prog 4 #[.agg (cnt c), .string s, .int .u8 a, .int .u8 b] w fun e w' => e = .returned (.bool true) ∧ Below w.heap.size w w' := by
  have hs : s.size ≤ 256 := by have := hR.few; simpa using this
  have hl' : ¬ (256 : Int) < (s.size : Int) := by omega
  have HB0 := Lib.hid (below_box w (.cells (cnt c) 22))
  have HR0 := Lib.hid (RowC.new c w)
  have HN := Lib.hid (New_yes c hc s (by unfold maxLen; omega) hR)
  have HC := Lib.hid hC
  have HD := Lib.hid hD
  clear hR hc hC hD
  go_enter Try.func4, Try.ntmps4
  go_wp2_with fail
  go_at_call 9
  refine (awake_any _).mono ?_
  rintro e w1 ⟨rfl, b1⟩
  have HR1 := Lib.hid (HR0.out.on b1)
  have HB1 := Lib.hid (HB0.out.trans (b1.mono HB0.out.size))
  clear b1
  go_wp2_with (refine wpList_counts (by rfl) _ rfl w.heap.size rfl c HR1.out ?_)
  go_at_call 10
  refine (HN.out _).mono ?_
  rintro e w2 ⟨g, rfl, t2, _, b2⟩
  have HB2 := Lib.hid (HB1.out.trans (b2.mono HB1.out.size))
  have HC2 := Lib.hid (HC.out g w2 t2)
  have HD2 := Lib.hid (HD.out g w2 t2)
  clear b2 t2 hl' HN HC HD hs
  go_wp2_with fail
  go_at_call 12
  refine HC2.out.mono ?_
  rintro e w' ⟨rfl, rfl⟩
  go_wp2_with fail
  go_at_call 12
  refine HD2.out.mono ?_
  rintro e w' ⟨rfl, rfl⟩
  have hsub : (M : Int) - (N : Int) = ((M - N : Nat) : Int) := by omega
  go_wp2
  go_ret
  exact ⟨rfl, HB2.out⟩
set_option maxHeartbeats 1000000 in
theorem pre_next (c : Nat → Nat) (hc : ∀ i, c i < 256) (s : ByteArray) (hR : Right c s.data.toList) (a b : Nat) (ha : a < 256) (hb : b < 256) (X M Y N : Nat) (hM : M ≤ 16) (hN : N ≤ 16) (hMN : M ≤ N) (hq : ((Y : Int) / 2 ^ (N - M) != (X : Int)) = true) (hab : ((a : Int) == (b : Int)) = false) (w : World)
    (hC : ∀ g W, Tbl g c s W → Calls Try.prog 12 #[.pointer (some ⟨g, 0, none⟩), .int .i64 a] W fun e w' => e = .returned (.tuple #[.int .i64 X, .int .i64 M, .bool true]) ∧ W = w')
    (hD : ∀ g W, Tbl g c s W → Calls Try.prog 12 #[.pointer (some ⟨g, 0, none⟩), .int .i64 b] W fun e w' => e = .returned (.tuple #[.int .i64 Y, .int .i64 N, .bool true]) ∧ W = w') :
    Calls Try.prog 4 #[.agg (cnt c), .string s, .int .u8 a, .int .u8 b] w fun e w' => e = .returned (.bool true) ∧ Below w.heap.size w w' := by
  have hs : s.size ≤ 256 := by have := hR.few; simpa using this
  have hl' : ¬ (256 : Int) < (s.size : Int) := by omega
  have HB0 := Lib.hid (below_box w (.cells (cnt c) 22))
  have HR0 := Lib.hid (RowC.new c w)
  have HN := Lib.hid (New_yes c hc s (by unfold maxLen; omega) hR)
  have HC := Lib.hid hC
  have HD := Lib.hid hD
  clear hR hc hC hD
  go_enter Try.func4, Try.ntmps4
  go_wp2_with fail
  go_at_call 9
  refine (awake_any _).mono ?_
  rintro e w1 ⟨rfl, b1⟩
  have HR1 := Lib.hid (HR0.out.on b1)
  have HB1 := Lib.hid (HB0.out.trans (b1.mono HB0.out.size))
  clear b1
  go_wp2_with (refine wpList_counts (by rfl) _ rfl w.heap.size rfl c HR1.out ?_)
  go_at_call 10
  refine (HN.out _).mono ?_
  rintro e w2 ⟨g, rfl, t2, _, b2⟩
  have HB2 := Lib.hid (HB1.out.trans (b2.mono HB1.out.size))
  have HC2 := Lib.hid (HC.out g w2 t2)
  have HD2 := Lib.hid (HD.out g w2 t2)
  clear b2 t2 hl' HN HC HD hs
  go_wp2_with fail
  go_at_call 12
  refine HC2.out.mono ?_
  rintro e w' ⟨rfl, rfl⟩
  go_wp2_with fail
  go_at_call 12
  refine HD2.out.mono ?_
  rintro e w' ⟨rfl, rfl⟩
  have hsub : (N : Int) - (M : Int) = ((N - M : Nat) : Int) := by omega
  go_wp2
  go_ret
  exact ⟨rfl, HB2.out⟩
set_option maxHeartbeats 1000000 in
theorem pre_one (c : Nat → Nat) (hc : ∀ i, c i < 256) (s : ByteArray) (hR : Right c s.data.toList) (a b : Nat) (ha : a < 256) (hb : b < 256) (X M : Nat) (hM : M ≤ 16) (ho : (X : Int) < wrap64 (wrap64 (2 ^ M) - 1)) (w : World)
    (hC : ∀ g W, Tbl g c s W → Calls Try.prog 12 #[.pointer (some ⟨g, 0, none⟩), .int .i64 a] W fun e w' => e = .returned (.tuple #[.int .i64 X, .int .i64 M, .bool true]) ∧ W = w')
    (hD : ∀ g W, Tbl g c s W → Calls Try.prog 12 #[.pointer (some ⟨g, 0, none⟩), .int .i64 b] W fun e w' => e = .returned (.tuple #[.int .i64 0, .int .i64 0, .bool false]) ∧ W = w') :
    Calls Try.prog 4 #[.agg (cnt c), .string s, .int .u8 a, .int .u8 b] w fun e w' => e = .returned (.bool true) ∧ Below w.heap.size w w' := by
  have hs : s.size ≤ 256 := by have := hR.few; simpa using this
  have hl' : ¬ (256 : Int) < (s.size : Int) := by omega
  have HB0 := Lib.hid (below_box w (.cells (cnt c) 22))
  have HR0 := Lib.hid (RowC.new c w)
  have HN := Lib.hid (New_yes c hc s (by unfold maxLen; omega) hR)
  have HC := Lib.hid hC
  have HD := Lib.hid hD
  clear hR hc hC hD
  go_enter Try.func4, Try.ntmps4
  go_wp2_with fail
  go_at_call 9
  refine (awake_any _).mono ?_
  rintro e w1 ⟨rfl, b1⟩
  have HR1 := Lib.hid (HR0.out.on b1)
  have HB1 := Lib.hid (HB0.out.trans (b1.mono HB0.out.size))
  clear b1
  go_wp2_with (refine wpList_counts (by rfl) _ rfl w.heap.size rfl c HR1.out ?_)
  go_at_call 10
  refine (HN.out _).mono ?_
  rintro e w2 ⟨g, rfl, t2, _, b2⟩
  have HB2 := Lib.hid (HB1.out.trans (b2.mono HB1.out.size))
  have HC2 := Lib.hid (HC.out g w2 t2)
  have HD2 := Lib.hid (HD.out g w2 t2)
  clear b2 t2 hl' HN HC HD hs
  go_wp2_with fail
  go_at_call 12
  refine HC2.out.mono ?_
  rintro e w' ⟨rfl, rfl⟩
  go_wp2_with fail
  go_at_call 12
  refine HD2.out.mono ?_
  rintro e w' ⟨rfl, rfl⟩
  go_wp2
  go_ret
  exact ⟨rfl, HB2.out⟩
set_option maxHeartbeats 1000000 in
theorem pre_other (c : Nat → Nat) (hc : ∀ i, c i < 256) (s : ByteArray) (hR : Right c s.data.toList) (a b : Nat) (ha : a < 256) (hb : b < 256) (Y N : Nat) (w : World)
    (hC : ∀ g W, Tbl g c s W → Calls Try.prog 12 #[.pointer (some ⟨g, 0, none⟩), .int .i64 a] W fun e w' => e = .returned (.tuple #[.int .i64 0, .int .i64 0, .bool false]) ∧ W = w')
    (hD : ∀ g W, Tbl g c s W → Calls Try.prog 12 #[.pointer (some ⟨g, 0, none⟩), .int .i64 b] W fun e w' => e = .returned (.tuple #[.int .i64 Y, .int .i64 N, .bool true]) ∧ W = w') :
    Calls Try.prog 4 #[.agg (cnt c), .string s, .int .u8 a, .int .u8 b] w fun e w' => e = .returned (.bool true) ∧ Below w.heap.size w w' := by
  have hs : s.size ≤ 256 := by have := hR.few; simpa using this
  have hl' : ¬ (256 : Int) < (s.size : Int) := by omega
  have HB0 := Lib.hid (below_box w (.cells (cnt c) 22))
  have HR0 := Lib.hid (RowC.new c w)
  have HN := Lib.hid (New_yes c hc s (by unfold maxLen; omega) hR)
  have HC := Lib.hid hC
  have HD := Lib.hid hD
  clear hR hc hC hD
  go_enter Try.func4, Try.ntmps4
  go_wp2_with fail
  go_at_call 9
  refine (awake_any _).mono ?_
  rintro e w1 ⟨rfl, b1⟩
  have HR1 := Lib.hid (HR0.out.on b1)
  have HB1 := Lib.hid (HB0.out.trans (b1.mono HB0.out.size))
  clear b1
  go_wp2_with (refine wpList_counts (by rfl) _ rfl w.heap.size rfl c HR1.out ?_)
  go_at_call 10
  refine (HN.out _).mono ?_
  rintro e w2 ⟨g, rfl, t2, _, b2⟩
  have HB2 := Lib.hid (HB1.out.trans (b2.mono HB1.out.size))
  have HC2 := Lib.hid (HC.out g w2 t2)
  have HD2 := Lib.hid (HD.out g w2 t2)
  clear b2 t2 hl' HN HC HD hs
  go_wp2_with fail
  go_at_call 12
  refine HC2.out.mono ?_
  rintro e w' ⟨rfl, rfl⟩
  go_wp2_with fail
  go_at_call 12
  refine HD2.out.mono ?_
  rintro e w' ⟨rfl, rfl⟩
  go_wp2
  go_ret
  exact ⟨rfl, HB2.out⟩
set_option maxHeartbeats 1000000 in
theorem pre_none (c : Nat → Nat) (hc : ∀ i, c i < 256) (s : ByteArray) (hR : Right c s.data.toList) (a b : Nat) (ha : a < 256) (hb : b < 256)  (w : World)
    (hC : ∀ g W, Tbl g c s W → Calls Try.prog 12 #[.pointer (some ⟨g, 0, none⟩), .int .i64 a] W fun e w' => e = .returned (.tuple #[.int .i64 0, .int .i64 0, .bool false]) ∧ W = w')
    (hD : ∀ g W, Tbl g c s W → Calls Try.prog 12 #[.pointer (some ⟨g, 0, none⟩), .int .i64 b] W fun e w' => e = .returned (.tuple #[.int .i64 0, .int .i64 0, .bool false]) ∧ W = w') :
    Calls Try.prog 4 #[.agg (cnt c), .string s, .int .u8 a, .int .u8 b] w fun e w' => e = .returned (.bool true) ∧ Below w.heap.size w w' := by
  have hs : s.size ≤ 256 := by have := hR.few; simpa using this
  have hl' : ¬ (256 : Int) < (s.size : Int) := by omega
  have HB0 := Lib.hid (below_box w (.cells (cnt c) 22))
  have HR0 := Lib.hid (RowC.new c w)
  have HN := Lib.hid (New_yes c hc s (by unfold maxLen; omega) hR)
  have HC := Lib.hid hC
  have HD := Lib.hid hD
  clear hR hc hC hD
  go_enter Try.func4, Try.ntmps4
  go_wp2_with fail
  go_at_call 9
  refine (awake_any _).mono ?_
  rintro e w1 ⟨rfl, b1⟩
  have HR1 := Lib.hid (HR0.out.on b1)
  have HB1 := Lib.hid (HB0.out.trans (b1.mono HB0.out.size))
  clear b1
  go_wp2_with (refine wpList_counts (by rfl) _ rfl w.heap.size rfl c HR1.out ?_)
  go_at_call 10
  refine (HN.out _).mono ?_
  rintro e w2 ⟨g, rfl, t2, _, b2⟩
  have HB2 := Lib.hid (HB1.out.trans (b2.mono HB1.out.size))
  have HC2 := Lib.hid (HC.out g w2 t2)
  have HD2 := Lib.hid (HD.out g w2 t2)
  clear b2 t2 hl' HN HC HD hs
  go_wp2_with fail
  go_at_call 12
  refine HC2.out.mono ?_
  rintro e w' ⟨rfl, rfl⟩
  go_wp2_with fail
  go_at_call 12
  refine HD2.out.mono ?_
  rintro e w' ⟨rfl, rfl⟩
  go_wp2
  go_ret
  exact ⟨rfl, HB2.out⟩
theorem pre_right (c : Nat → Nat) (hc : ∀ i, c i < 256) (s : ByteArray) (hR : Right c s.data.toList) (a b : Nat) (ha : a < 256) (hb : b < 256) (w : World) :
    Calls Try.prog 4 #[.agg (cnt c), .string s, .int .u8 a, .int .u8 b] w fun e w' => e = .returned (.bool true) ∧ Below w.heap.size w w' := by
  rcases at_or s a ha with ⟨i, hi, rfl⟩ | hna
  · have hC := fun g W (h : Tbl g c s W) => Code_yes g c hc s hR i hi W h
    have hi' : i < s.data.toList.length := by simpa using hi
    have ci1 := code_lt hR hi'
    have ci2 := codeL_le hR hi'
    have ho := ones_code _ _ ci2 ci1
    rcases at_or s b hb with ⟨j, hj, rfl⟩ | hnb
    · have hD := fun g W (h : Tbl g c s W) => Code_yes g c hc s hR j hj W h
      have hj' : j < s.data.toList.length := by simpa using hj
      have cj2 := codeL_le hR hj'
      by_cases e : i = j
      · subst e
        exact pre_same c hc s hR _ _ ha hb _ _ _ _ ci2 ho (by simp) w hC hD
      · have hne : ((s[i].toNat : Int) == (s[j].toNat : Int)) = false := by
          rw [beq_eq_false_iff_ne]
          intro h
          have h2 : s[i] = s[j] := UInt8.toNat_inj.1 (by omega)
          have hnd := List.pairwise_iff_getElem.1 hR.once
          rcases Nat.lt_or_gt_of_ne e with h3 | h3
          · exact hnd i j hi' hj' h3 h2
          · exact hnd j i hj' hi' h3 h2.symm
        by_cases hMN : codeL c j < codeL c i
        · refine pre_left c hc s hR _ _ ha hb _ _ _ _ ci2 cj2 hMN ?_ hne w hC hD
          have := code_prefix hR hi' hj' e (by omega)
          rw [bne_iff_ne, show (codeN c i : Int) / 2 ^ (codeL c i - codeL c j) = ((codeN c i / 2 ^ (codeL c i - codeL c j) : Nat) : Int) by simp]
          omega
        · refine pre_next c hc s hR _ _ ha hb _ _ _ _ ci2 cj2 (by omega) ?_ hne w hC hD
          have := code_prefix hR hj' hi' (fun h => e h.symm) (by omega)
          rw [bne_iff_ne, show (codeN c j : Int) / 2 ^ (codeL c j - codeL c i) = ((codeN c j / 2 ^ (codeL c j - codeL c i) : Nat) : Int) by simp]
          omega
    · exact pre_one c hc s hR _ b ha hb _ _ ci2 ho w hC (fun g W h => Code_no g c s b hb hnb W h)
  · rcases at_or s b hb with ⟨j, hj, rfl⟩ | hnb
    · exact pre_other c hc s hR a _ ha hb _ _ w (fun g W h => Code_no g c s a ha hna W h) (fun g W h => Code_yes g c hc s hR j hj W h)
    · exact pre_none c hc s hR a b ha hb w (fun g W h => Code_no g c s a ha hna W h) (fun g W h => Code_no g c s b hb hnb W h)
theorem HuffPrefix_any (c : Nat → Nat) (s : ByteArray) (a b : Nat) (w : World) (hc : ∀ i, c i < 256) (hs : s.size ≤ maxLen) (ha : a < 256) (hb : b < 256) :
    Calls Try.prog 4 #[.agg (cnt c), .string s, .int .u8 a, .int .u8 b] w fun e w' => e = .returned (.bool true) ∧ Below w.heap.size w w' := by
  by_cases h : 256 < s.size
  · exact pre_far c s hs h a b w
  · by_cases hR : Right c s.data.toList
    · exact pre_right c hc s hR a b ha hb w
    · exact pre_wrong c hc s (by omega) hR a b w
end Go.Proofs.Ytmoennlpendknaa
