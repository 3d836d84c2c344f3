/- A quantization table: read. -/
import Derived.Test.YtfohgocdabgbgaaDoorZWalk
namespace Go.Proofs.YtfohgocdabgbgaaDoor
open Go.RowKit

set_option maxHeartbeats 1000000 in
theorem num_err (B k c : Nat) (s : ByteArray) (p : Nat × Nat) (m : Int) (h0 : p.2 ≠ 0) (w : World) (h : Rdd B k c s p w) :
    Calls Tryd.prog 46 #[.pointer (some ⟨k, 0, none⟩), .int .i64 m] w fun e w' => e = .returned (.int .i64 0) ∧ Rdd B k c s p w' ∧ Two k c w w' := by
  have H := Lib.hid h
  have x0 := h.ce
  have e0 : ((p.2 : Int) != 0) = true := by simp; omega
  clear h0 h
  generalize hp : (p.2 : Int) = z at *
  go_enter Tryd.func46, Tryd.ntmps46
  go_wp2
  go_ret
  exact ⟨rfl, H.out, Two.refl _ _ _⟩
theorem num_gen (B k c : Nat) (s : ByteArray) (hs : s.size ≤ maxLen) (p : Nat × Nat) (m : Nat) (h1 : 1 ≤ m) (h4 : p.2 = 0 → m ≤ 4) (w : World) (h : Rdd B k c s p w) :
    Calls Tryd.prog 46 #[.pointer (some ⟨k, 0, none⟩), .int .i64 m] w fun e w' => e = .returned (.int .i64 (rnum s m p).1) ∧ Rdd B k c s (rnum s m p).2 w' ∧ Two k c w w' := by
  by_cases h0 : p.2 = 0
  · exact num_two B k c s hs p m h1 (h4 h0) w h
  · have e : rnum s m p = (0, p) := if_neg h0
    rw [e]
    exact num_err B k c s p m h0 w h

theorem rneed_ok {ok : Bool} {x : Nat} {p : Nat × Nat} (h : (rneed ok x p).2 = 0) : p.2 = 0 := by
  unfold rneed at h
  by_cases h1 : p.2 = 0
  · exact h1
  · rwa [if_neg (fun h => h1 h.1)] at h
theorem rnum_ok {s : ByteArray} {m : Nat} {p : Nat × Nat} (h : (rnum s m p).2.2 = 0) : p.2 = 0 := by
  unfold rnum at h
  by_cases h1 : p.2 = 0
  · exact h1
  · rwa [if_neg h1] at h
/-- The state ahead of the k-th entry. -/
def rtab (s : ByteArray) (m : Nat) (p : Nat × Nat) : Nat → Nat × Nat
  | 0 => p
  | k + 1 => rneed (decide ((rnum s m (rtab s m p k)).1 ≠ 0)) 5 (rnum s m (rtab s m p k)).2
/-- The k-th entry. -/
def rent (s : ByteArray) (m : Nat) (p : Nat × Nat) (k : Nat) : Nat := (rnum s m (rtab s m p k)).1
theorem rtab_ok (s : ByteArray) (m : Nat) (p : Nat × Nat) : ∀ k, (rtab s m p k).2 = 0 → p.2 = 0
  | 0, h => h
  | k + 1, h => rtab_ok s m p k (rnum_ok (rneed_ok h))
theorem rent_lt (s : ByteArray) (m : Nat) (p : Nat × Nat) (hm : p.2 = 0 → m ≤ 2) (k : Nat) : rent s m p k < 65536 := by
  unfold rent
  by_cases h0 : (rtab s m p k).2 = 0
  · have h2 := hm (rtab_ok s m p k h0)
    unfold rnum
    rw [if_pos h0]
    by_cases h : s.size - (rtab s m p k).1 < m
    · rw [if_pos h]; exact Nat.zero_lt_succ _
    · rw [if_neg h]
      have h1 := num_lt (s.extract (rtab s m p k).1 ((rtab s m p k).1 + m)).data.toList
      have h3 : (s.extract (rtab s m p k).1 ((rtab s m p k).1 + m)).data.toList.length ≤ 2 := by simp; omega
      exact Nat.lt_of_lt_of_le h1 (Nat.pow_le_pow_right (by omega) h3)
  · rw [show rnum s m (rtab s m p k) = (0, rtab s m p k) from if_neg h0]; exact Nat.zero_lt_succ _
/-- A table, told: its place, its kind, its entries in the order of a file, and the state behind it. -/
def rquant (s : ByteArray) (p : Nat × Nat) : (Nat × Nat × (Nat → Nat)) × (Nat × Nat) :=
  (((rplace s p).1.2, (rplace s p).1.1, rent s (1 + (rplace s p).1.1) (rplace s p).2), rtab s (1 + (rplace s p).1.1) (rplace s p).2 64)
theorem rplace_ok (s : ByteArray) (p : Nat × Nat) (h : (rplace s p).2.2 = 0) : (rplace s p).1.1 ≤ 1 := by
  unfold rplace at h ⊢
  simp only [] at h ⊢
  apply Classical.byContradiction
  intro hn
  have h1 := rneed_ok h
  unfold rneed at h
  rw [if_pos ⟨h1, by simp; omega⟩] at h
  cases h
theorem rplace_lt (s : ByteArray) (p : Nat × Nat) : (rplace s p).1.1 < 16 ∧ (rplace s p).1.2 < 16 := by
  have h := rnum_one s p
  unfold rplace rpair
  exact ⟨by simp only []; omega, by simp only []; omega⟩
def quantC (x : Nat × Nat × (Nat → Nat)) : Array Value := #[.int .i64 x.1, .bool (decide (x.2.1 = 1))] ++ blk .u16 fun i => (x.2.2 (sp i) : Nat)
theorem built67 (a : Int) (b : Bool) (f : Nat → Int) : Tryd.prog.built 67 [(0, .int .i64 a), (1, .bool b), (2, .agg (blk .u16 f))] = some (#[.int .i64 a, .bool b] ++ blk .u16 f) := by kernel_rfl
theorem Tab.two {k c : Nat} {w w' : World} (h : Tab w) (hb : Two k c w w') (hk : k ≠ 0) (hc : c ≠ 0) : Tab w' := by
  refine ⟨Nat.lt_of_lt_of_le h.1 hb.size, fun j hj => ?_⟩
  rw [← h.2 j hj]
  unfold World.cell?
  rw [hb.block 0 (Ne.symm hk) (Ne.symm hc) h.1]
theorem RowZ.two {t : TypeId} {K : IntKind} {g k c : Nat} {f : Nat → Int} {w w' : World} (h : RowZ t K g f w) (hb : Two k c w w') (hk : g ≠ k) (hc : g ≠ c) : RowZ t K g f w' := (hb.block g hk hc h.lt).trans h
end Go.Proofs.YtfohgocdabgbgaaDoor
