/- BestCosts: its walk. -/
import Derived.Test.YtlfnjdgfllhepaaBRights
import Derived.Test.YtlfnjdgfllhepaaRFind
namespace Go.Proofs.Ytlfnjdgfllhepaa
open Go.RowKit

/-- A number that may not be, or a symbol that comes and has no code. -/
def Bad (fi : Nat → Int) (y : List UInt8) (x : Nat) : Prop := fi x < 0 ∨ fi x > 1099511627776 ∨ (fi x > 0 ∧ x.toUInt8 ∉ y)
/-- The document's Find of the document's codes. -/
theorem Find_mem (B g q : Nat) (c : Nat → Nat) (hc : ∀ i, c i < 256) (s : ByteArray) (hR : Right c s.data.toList) (x : Nat) (hx : x < 256) (hm : x.toUInt8 ∈ s.data.toList) (w : World) (hO : OwnC B (.slice (some ⟨g, 0, none⟩) s.size q) (codes c s.data.toList 16) w) :
    Calls Try.prog 16 #[.slice (some ⟨g, 0, none⟩) s.size q, .int .i64 x] w fun e w' => e = .returned (.tuple #[.agg #[.int .i64 x, .int .i64 (codeN c (s.data.toList.idxOf x.toUInt8)), .int .i64 (clen c s.data.toList x)], .bool true]) ∧ Below w.heap.size w w' := by
  have hi := List.idxOf_lt_length_of_mem hm
  have hsz : s.data.toList.length = s.size := by simp
  have h1 := Find_yes B g q c hc s hR (s.data.toList.idxOf x.toUInt8) (by omega) w hO
  have e : s[s.data.toList.idxOf x.toUInt8]'(by omega) = x.toUInt8 := by
    have := List.getElem_idxOf hi
    rw [Array.getElem_toList] at this
    exact this
  rw [e, toU_toNat x hx] at h1
  unfold clen
  rw [if_pos hm]
  exact h1
theorem Find_out (B g q : Nat) (c : Nat → Nat) (s : ByteArray) (hR : Right c s.data.toList) (x : Nat) (hx : x < 256) (hm : x.toUInt8 ∉ s.data.toList) (w : World) (hO : OwnC B (.slice (some ⟨g, 0, none⟩) s.size q) (codes c s.data.toList 16) w) :
    Calls Try.prog 16 #[.slice (some ⟨g, 0, none⟩) s.size q, .int .i64 x] w fun e w' => e = .returned (.tuple #[.agg #[.int .i64 0, .int .i64 0, .int .i64 0], .bool false]) ∧ Below w.heap.size w w' := by
  refine Find_no B g q c s hR x (fun i h e => hm ?_) w hO
  have e1 : s[i].toNat = x := by omega
  have e2 : s[i] = x.toUInt8 := UInt8.toNat_inj.1 (by rw [toU_toNat x hx]; exact e1)
  rw [← e2]
  have hi : i < s.data.toList.length := by simpa using h
  have e3 : s.data.toList[i] = s[i] := by rw [Array.getElem_toList]; rfl
  rw [← e3]
  exact List.getElem_mem hi
/-- What lies in memory while BestCosts goes on. -/
structure BSt (B : Nat) (fi : Nat → Int) (c : Nat → Nat) (w wr : World) : Prop where
  arg : RowN 22 256 B fi wr
  tab : RowC (B + 1) c wr
  low : Below B w wr
theorem BSt.on {B : Nat} {fi : Nat → Int} {c : Nat → Nat} {w wr w' : World} (h : BSt B fi c w wr) (hb : Below wr.heap.size wr w') : BSt B fi c w w' :=
  ⟨h.arg.on hb, h.tab.on hb, h.low.trans (hb.mono (by have := h.arg.lt; omega))⟩
theorem BSt.start (fi : Nat → Int) (c : Nat → Nat) (w : World) : BSt w.heap.size fi c w ((w.alloc (.cells (ints 256 fi) 22)).alloc (.cells (cnt c) 23)) := by
  refine ⟨(RowN.new rfl).old _, ?_, ((Below.refl _ _).alloc (Nat.le_refl _) _).alloc (by rw [size_alloc]; omega) _⟩
  have h := RowC.new c (w.alloc (.cells (ints 256 fi) 22))
  rwa [size_alloc] at h

set_option maxHeartbeats 1000000 in
set_option maxRecDepth 100000 in
theorem BestCosts_long (fi : Nat → Int) (c : Nat → Nat) (s : ByteArray) (hs : 256 < s.size) (hm : s.size ≤ maxLen) (w : World) :
    Calls Try.prog 6 #[.agg (ints 256 fi), .agg (cnt c), .string s] w fun e w' => e = .returned (.bool true) ∧ Below w.heap.size w w' := by
  obtain ⟨wb, hwb⟩ : ∃ wb, wb = (w.alloc (.cells (ints 256 fi) 22)).alloc (.cells (cnt c) 23) := ⟨_, rfl⟩
  have HS : Hid (BSt w.heap.size fi c w wb) := hwb ▸ BSt.start fi c w
  have HA := Lib.hid awake_any
  have e1 : (256 : Int) < (s.size : Int) := by omega
  have HM := Lib.hid hm
  clear hm
  go_enter Try.func6, Try.ntmps6
  go_upto_region 1 with fail
  rw [← hwb]
  clear hwb
  go_wp2_with (go_at_call 10; first
    | (refine (HA.out wb).mono ?_; rintro e w1 ⟨rfl, hb1⟩; have HS1 := Lib.hid (HS.out.on hb1); clear hb1 HS)
    | (refine (HA.out w1).mono ?_; rintro e w2 ⟨rfl, hb2⟩; have HS2 := Lib.hid (HS1.out.on hb2); clear hb2 HS1))
  go_ret
  exact ⟨rfl, HS2.out.low⟩
set_option maxHeartbeats 1000000 in
set_option maxRecDepth 100000 in
theorem BestCosts_none (fi : Nat → Int) (c : Nat → Nat) (hc : ∀ i, c i < 256) (s : ByteArray) (hs : s.size ≤ 256) (hR : ¬ Right c s.data.toList) (w : World) :
    Calls Try.prog 6 #[.agg (ints 256 fi), .agg (cnt c), .string s] w fun e w' => e = .returned (.bool true) ∧ Below w.heap.size w w' := by
  obtain ⟨wb, hwb⟩ : ∃ wb, wb = (w.alloc (.cells (ints 256 fi) 22)).alloc (.cells (cnt c) 23) := ⟨_, rfl⟩
  have HS : Hid (BSt w.heap.size fi c w wb) := hwb ▸ BSt.start fi c w
  have HA := Lib.hid awake_any
  have HN := Lib.hid (New_no c hc s (by unfold maxLen; omega) hR)
  have HC := Lib.hid (Cost_nil fi)
  clear hc hR
  go_enter Try.func6, Try.ntmps6
  go_upto_region 1 with fail
  rw [← hwb]
  clear hwb
  go_wp2_with (first
    | (go_at_call 10; refine (HA.out wb).mono ?_; rintro e w1 ⟨rfl, hb1⟩; have HS1 := Lib.hid (HS.out.on hb1); clear hb1 HS)
    | refine wpList_load_row rfl 23 _ rfl (w.heap.size + 1) rfl 23 _ (0, 0) _ HS1.out.tab Try.underlying23 rfl (size22 _) ?_
    | refine wpList_load_row rfl 22 _ rfl w.heap.size rfl 22 _ (0, 0) _ HS2.out.arg Try.underlying22 rfl (size22i _) ?_
    | (go_at_call 11; refine (HN.out w1).mono ?_; rintro e w2 ⟨rfl, hb2⟩; have HS2 := Lib.hid (HS1.out.on hb2); clear hb2 HS1)
    | (go_at_call 14; refine (HC.out w2).mono ?_; rintro e w3 ⟨rfl, hb3⟩; have HS3 := Lib.hid (HS2.out.on hb3); clear hb3 HS2))
  go_ret
  exact ⟨rfl, HS3.out.low⟩
end Go.Proofs.Ytlfnjdgfllhepaa
