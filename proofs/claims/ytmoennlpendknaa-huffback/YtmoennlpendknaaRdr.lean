/- Walks of package bits: the reader. -/
import Derived.Test.YtmoennlpendknaaWalk
namespace Go.Proofs.Ytmoennlpendknaa
open Go.RowKit

/-- All blocks but one are as they were. -/
structure But (k : Nat) (w w' : World) : Prop where
  os : w'.os = w.os
  tape : w'.tape = w.tape
  output : w'.output = w.output
  size : w.heap.size ≤ w'.heap.size
  block : ∀ j, j ≠ k → j < w.heap.size → w'.heap[j]? = w.heap[j]?
theorem But.refl (k : Nat) (w : World) : But k w w := ⟨rfl, rfl, rfl, Nat.le_refl _, fun _ _ _ => rfl⟩
theorem But.trans {k : Nat} {a b c : World} (h : But k a b) (g : But k b c) : But k a c :=
  ⟨g.os.trans h.os, g.tape.trans h.tape, g.output.trans h.output, Nat.le_trans h.size g.size, fun j hj hl => (g.block j hj (Nat.lt_of_lt_of_le hl h.size)).trans (h.block j hj hl)⟩
theorem But.drewN {k : Nat} {a b : World} (h : But k a b) (n : Nat) : But k a (b.drewN n) := ⟨h.os, h.tape, h.output, h.size, h.block⟩
theorem But.setCell {k : Nat} {a b : World} (h : But k a b) (o : Nat) (v : Value) : But k a (b.setCell ⟨k, o, none⟩ v) :=
  ⟨h.os, h.tape, h.output, by simpa using h.size, fun j hj hl => by
    rw [← h.block j hj hl]
    simp [World.setCell, Array.getElem?_modify, hj.symm]⟩
theorem But.below {k B : Nat} {w w' : World} (h : But k w w') (hk : B ≤ k) (hB : B ≤ w.heap.size) : Below B w w' :=
  ⟨h.os, h.tape, h.output, h.size, fun j hj => h.block j (by omega) (by omega)⟩
theorem But.of_below {k : Nat} {w w' : World} (h : Below w.heap.size w w') : But k w w' :=
  ⟨h.os, h.tape, h.output, h.size, fun j _ hl => h.block j hl⟩
theorem But.grown {k : Nat} {w w' : World} (h : But k w w') : w.grownBy w' (some k) := ⟨h.os, h.tape, h.output, h.size, fun j hj hne => h.block j (fun e => hne (by rw [e])) hj⟩
theorem below_grown {w w' : World} (h : Below w.heap.size w w') : w.grownBy w' none := ⟨h.os, h.tape, h.output, h.size, fun j hj _ => h.block j hj⟩
theorem below_drewN (B : Nat) (w : World) (n : Nat) : Below B w (w.drewN n) := ⟨rfl, rfl, rfl, Nat.le_refl _, fun _ _ => rfl⟩

/-- A reader of the text stands in this block: the place, and the bits that are left of a byte. -/
def Rd (k : Nat) (s : ByteArray) (a : Nat) (H : List Bool) (w : World) : Prop :=
  w.heap[k]? = some (.cells #[.string s, .int .i64 a, .int .i64 H.length, .int .i64 (val H)] 73 (0, 0))
section
variable {k : Nat} {s : ByteArray} {a : Nat} {H : List Bool} {w w' : World}
theorem Rd.text (h : Rd k s a H w) : w.cell? ⟨k, 0, none⟩ = some (.string s) := by unfold Rd at h; simp [World.cell?, h]
theorem Rd.at (h : Rd k s a H w) : w.cell? ⟨k, 1, none⟩ = some (.int .i64 a) := by unfold Rd at h; simp [World.cell?, h]
theorem Rd.left (h : Rd k s a H w) : w.cell? ⟨k, 2, none⟩ = some (.int .i64 H.length) := by unfold Rd at h; simp [World.cell?, h]
theorem Rd.part (h : Rd k s a H w) : w.cell? ⟨k, 3, none⟩ = some (.int .i64 (val H)) := by unfold Rd at h; simp [World.cell?, h]
theorem Rd.free (h : Rd k s a H w) (o : Nat) : w.frozen? ⟨k, o, none⟩ = false := by unfold Rd at h; simp [World.frozen?, h]
theorem Rd.lt (h : Rd k s a H w) : k < w.heap.size := (Array.getElem?_eq_some_iff.1 h).1
theorem Rd.on (h : Rd k s a H w) (hb : Below w.heap.size w w') : Rd k s a H w' := (hb.block k h.lt).trans h
theorem Rd.but {j : Nat} (h : Rd k s a H w) (hb : But j w w') (hne : k ≠ j) : Rd k s a H w' := (hb.block k hne h.lt).trans h
/-- Behind the three stores. -/
theorem Rd.set3 (h : Rd k s a H w) (b : Nat) (G : List Bool) (x y z : Int) (hx : x = b) (hy : y = G.length) (hz : z = val G) :
    Rd k s b G (((w.setCell ⟨k, 1, none⟩ (.int .i64 x)).setCell ⟨k, 2, none⟩ (.int .i64 y)).setCell ⟨k, 3, none⟩ (.int .i64 z)) := by
  subst hx hy hz
  unfold Rd at h ⊢; simp [World.setCell, Array.getElem?_modify, h]
theorem Rd.set2 (h : Rd k s a H w) (G : List Bool) (y z : Int) (hy : y = G.length) (hz : z = val G) :
    Rd k s a G ((w.setCell ⟨k, 2, none⟩ (.int .i64 y)).setCell ⟨k, 3, none⟩ (.int .i64 z)) := by
  subst hy hz
  unfold Rd at h ⊢; simp [World.setCell, Array.getElem?_modify, h]
end

/-- From which place a reader reads. -/
def start (s : ByteArray) (z : Int) : Nat := if z < 0 then 0 else min z.toNat s.size
theorem start_le (s : ByteArray) (z : Int) : start s z ≤ s.size := by unfold start; split <;> omega
theorem new_rd (s : ByteArray) (a : Nat) (x : Int) (hx : x = a) (w : World) : Rd w.heap.size s a [] (w.alloc (.cells #[.string s, .int .i64 x, .int .i64 0, .int .i64 0] 73)) := by
  subst hx
  exact heap_alloc_new _ _
set_option maxHeartbeats 400000 in
theorem NewReader_any (s : ByteArray) (z : Int) (hs : s.size ≤ maxLen) (w : World) :
    Calls Try.prog 14 #[.string s, .int .i64 z] w fun e w' => e = .returned (.pointer (some ⟨w.heap.size, 0, none⟩)) ∧ Rd w.heap.size s (start s z) [] w' ∧ Below w.heap.size w w' := by
  unfold maxLen at hs
  go_enter Try.func14, Try.ntmps14
  go_wp2
  all_goals
    go_ret
    exact ⟨rfl, new_rd s (start s z) _ (by unfold start; split <;> omega) w, (Below.refl _ _).alloc (Nat.le_refl _) _⟩

theorem part_or (G : List Bool) (b : Nat) (hG : G.length ≤ 16) (hb : b < 256) : bits .or .i64 (wrap64 ((val G : Int) * 256)) (b : Int) = ((val (G ++ bitsOf b 8) : Nat) : Int) := by
  have h1 := val_lt G
  have h2 : 2 ^ G.length ≤ 2 ^ 16 := Nat.pow_le_pow_right (by omega) hG
  have h3 := val_append G (bitsOf b 8)
  rw [bitsOf_length, val_bitsOf_lt b 8 (by omega)] at h3
  rw [h3]
  generalize val G = x at *
  have := i64_or_nat (x * 2 ^ 8) b (by omega) (by omega)
  rw [or_pow x b 8 (by omega)] at this
  rw [wrap64_small _ (by omega) (by omega)]
  simpa using this
theorem val_24 (G : List Bool) (h : G.length ≤ 24) : val G < 16777216 := by
  have h1 := val_lt G
  have h2 := pow_le24 G.length h
  omega
theorem shr_val (G : List Bool) (n : Nat) : (val G : Int) / 2 ^ (G.length - n) = ((val (G.take n) : Nat) : Int) := by
  rw [val_take]; simp
set_option maxHeartbeats 1000000 in
theorem Bits_yes (k : Nat) (s : ByteArray) (a : Nat) (H : List Bool) (n : Nat) (w : World) (h : Rd k s a H w) (hs : s.size ≤ maxLen) (ha : a ≤ s.size) (hH : H.length < 8) (hn : n ≤ 16) :
    Calls Try.prog 34 #[.pointer (some ⟨k, 0, none⟩), .int .i64 n] w fun e w' => e = .returned (.tuple #[.int .i64 (rbits s.data.toList n a H).1, .int .i64 (rbits s.data.toList n a H).2.2.2]) ∧
      Rd k s (rbits s.data.toList n a H).2.1 (rbits s.data.toList n a H).2.2.1 w' ∧ But k w w' := by
  have h0 := h.text
  have h1 := h.at
  have h2 := h.left
  have h3 := h.part
  have f1 := h.free 1
  have f2 := h.free 2
  have f3 := h.free 3
  have HH := Lib.hid h
  have HM := Lib.hid hs
  clear h
  obtain ⟨R, hR⟩ : ∃ R, R = rbits s.data.toList n a H := ⟨_, rfl⟩
  rw [← hR]
  have HR := Lib.hid hR
  clear hR
  unfold maxLen at hs
  go_enter Try.func34, Try.ntmps34
  go_wp2_with (go_at_call 37; refine (counted_yes n (by omega) (by omega) w).mono ?_; rintro e w' ⟨rfl, rfl⟩)
  go_quiet (fail)
  go_wp2
  go_loop [6, 7, 8] (fun x y z => ∃ (b : Nat) (G : List Bool), fetch s.data.toList n b G = fetch s.data.toList n a H ∧ b ≤ s.size ∧ G.length < n + 8 ∧ x = .int .i64 b ∧ y = .int .i64 G.length ∧ z = .int .i64 (val G)) (fun _ y _ => n - (intOf y).toNat)
  case atStart => exact ⟨a, H, rfl, ha, by omega, rfl, rfl, rfl⟩
  case round =>
    obtain ⟨b, G, hf, hb, hG, rfl, rfl, rfl⟩ := hrel
    have HF := Lib.hid hf
    clear hf
    by_cases hlt : G.length < n
    · have hC := dataByte_any s b HM.out hb
      have d1 := dbyte_lt s.data.toList b
      have d2 := dbyte_le s.data.toList b (by simpa using hb)
      have hd2 : (dbyte s.data.toList b).2 ≤ 2 := by
        unfold dbyte; split
        · simp
        · split
          · split <;> simp
          · simp
      by_cases h0' : (dbyte s.data.toList b).2 = 0
      · have hfn := fetch_none s.data.toList n b G hlt h0'
        rw [HF.out] at hfn
        have hR := HR.out
        rw [rbits_none _ _ _ _ hn hfn] at hR
        have HR2 := Lib.hid hR
        rw [h0'] at hC
        generalize (dbyte s.data.toList b).1 = D at hC d1
        have HC := Lib.hid hC
        clear hC hfn hR h0' d2 hd2
        go_wp2_with (go_at_call 41; refine (HC.out _).mono ?_; rintro e w' ⟨rfl, rfl⟩)
        go_ret2
        exact ⟨by rw [HR2.out]; rfl, by rw [HR2.out]; exact HH.out, (But.refl k w).drewN _⟩
      · have hfm := fetch_more s.data.toList n b G hlt h0'
        rw [HF.out] at hfm
        have hor := part_or G (dbyte s.data.toList b).1 (by omega) d1
        have h0b : (((dbyte s.data.toList b).2 : Int) == 0) = false := by rw [beq_eq_false_iff_ne]; omega
        generalize (dbyte s.data.toList b).1 = D at hC d1 hfm hor
        generalize (dbyte s.data.toList b).2 = E at hC d2 hfm hd2 h0b
        have HFM := Lib.hid hfm
        have HC := Lib.hid hC
        have HO := Lib.hid hor
        have hbE : b + E ≤ s.size := by simpa using d2
        clear hC hfm h0' d2 hor
        go_wp2_with (go_at_call 41; refine (HC.out _).mono ?_; rintro e w' ⟨rfl, rfl⟩)
        go_round
        case rel => exact ⟨b + E, G ++ bitsOf D 8, HFM.out.symm, hbE, by rw [List.length_append, bitsOf_length]; omega, by go_num, by rw [List.length_append, bitsOf_length]; go_num, by rw [← HO.out]⟩
        case measure => simp [intOf]; omega
    · have hfd := fetch_done s.data.toList n b G (by omega)
      rw [HF.out] at hfd
      have hR := HR.out
      rw [rbits_some _ _ _ _ hn _ _ hfd] at hR
      have HR2 := Lib.hid hR
      have hv := val_24 G (by omega)
      have HL := Lib.hid (lowest_any (val G) (G.length - n) hv (by omega))
      have HS := Lib.hid (shr_val G n)
      have HD := Lib.hid (val_drop G n)
      have hc : (G.length : Int) - (n : Int) = ((G.length - n : Nat) : Int) := by omega
      clear hfd hR
      go_wp2_with (go_at_call 40; refine (HL.out _).mono ?_; rintro e w' ⟨rfl, rfl⟩)
      go_ret2
      refine ⟨by rw [HR2.out]; exact ret_ints HS.out rfl, ?_, ((((But.refl k w).drewN nq).setCell 1 _).setCell 2 _).setCell 3 _⟩
      rw [HR2.out]
      exact (show Rd k s a H (w.drewN nq) from HH.out).set3 b (G.drop n) _ _ _ rfl (by rw [List.length_drop]) (by rw [HD.out]; simp)
set_option maxHeartbeats 1000000 in
theorem Bits_arg (k : Nat) (z : Int) (w : World) (hz : z < 0 ∨ 16 < z) :
    Calls Try.prog 34 #[.pointer (some ⟨k, 0, none⟩), .int .i64 z] w fun e w' => e = .returned (.tuple #[.int .i64 0, .int .i64 1]) ∧ w = w' := by
  have HZ := Lib.hid hz
  clear hz
  go_enter Try.func34, Try.ntmps34
  go_wp2_with (go_at_call 37; refine (counted_no z HZ.out w).mono ?_; rintro e w' ⟨rfl, rfl⟩)
  go_ret2
  exact ⟨rfl, rfl⟩
set_option maxHeartbeats 1000000 in
theorem Bits_nil (z : Int) (w : World) :
    Calls Try.prog 34 #[.pointer none, .int .i64 z] w fun e w' => e = .returned (.tuple #[.int .i64 0, .int .i64 1]) ∧ w = w' := by
  go_enter Try.func34, Try.ntmps34
  go_wp2
  go_ret2
  exact ⟨rfl, rfl⟩
theorem Bits_any (k : Nat) (s : ByteArray) (a : Nat) (H : List Bool) (z : Int) (w : World) (h : Rd k s a H w) (hs : s.size ≤ maxLen) (ha : a ≤ s.size) (hH : H.length < 8) :
    Calls Try.prog 34 #[.pointer (some ⟨k, 0, none⟩), .int .i64 z] w fun e w' => e = .returned (.tuple #[.int .i64 (rbits s.data.toList z a H).1, .int .i64 (rbits s.data.toList z a H).2.2.2]) ∧
      Rd k s (rbits s.data.toList z a H).2.1 (rbits s.data.toList z a H).2.2.1 w' ∧ But k w w' := by
  by_cases hz : z < 0 ∨ 16 < z
  · have e : rbits s.data.toList z a H = (0, a, H, 1) := by unfold rbits; rw [if_pos hz]
    rw [e]
    exact (Bits_arg k z w hz).mono fun e w' ⟨he, hw⟩ => ⟨he, hw ▸ h, hw ▸ But.refl _ _⟩
  · obtain ⟨m, rfl⟩ := Int.eq_ofNat_of_zero_le (show 0 ≤ z by omega)
    exact Bits_yes k s a H m w h hs ha hH (by omega)
end Go.Proofs.Ytmoennlpendknaa
