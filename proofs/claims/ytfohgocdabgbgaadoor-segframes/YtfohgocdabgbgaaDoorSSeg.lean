/- Segments, told plainly; Parse, for every code and every body. -/
import Derived.Test.YtfohgocdabgbgaaDoorSScan
import Derived.Test.YtfohgocdabgbgaaDoorSHuffs
import Derived.Test.YtfohgocdabgbgaaDoorSRest
namespace Go.Proofs.YtfohgocdabgbgaaDoor
open Go.RowKit

abbrev QT := Int × Bool × (Nat → Int)
def cellsQ (x : QT) : Array Value := cells67 x.1 x.2.1 x.2.2
theorem cellsQ_size (x : QT) : (cellsQ x).size = 66 := cells67_size _ _ _
theorem cellsQ_one (x : QT) : (cellsQ x).all (·.oneCell') = true := cells67_one _ _ _
def qt (x : Nat × Nat × (Nat → Nat)) : QT := ((x.1 : Nat), decide (x.2.1 = 1), fun i => (x.2.2 (sp i) : Nat))
/-- A segment with a body: any bytes; quantization tables; tables of codes; a frame's beginning; a scan's; how many units stand between two restarts. -/
abbrev PS := (Int × ByteArray) ⊕ List QT ⊕ List HT ⊕ (Int × Int × Int × List PT) ⊕ (List KT × Int × Int × Int × Int) ⊕ Int
abbrev PS.plain (z : Int) (s : ByteArray) : PS := .inl (z, s)
abbrev PS.quants (l : List QT) : PS := .inr (.inl l)
abbrev PS.huffs (l : List HT) : PS := .inr (.inr (.inl l))
abbrev PS.frame (z h u : Int) (l : List PT) : PS := .inr (.inr (.inr (.inl (z, h, u, l))))
abbrev PS.scan (l : List KT) (f t h u : Int) : PS := .inr (.inr (.inr (.inr (.inl (l, f, t, h, u)))))
abbrev PS.rest (n : Int) : PS := .inr (.inr (.inr (.inr (.inr n))))
/-- It is this value; its list is the call's own, from block B on. -/
def SegV (B : Nat) : PS → Value → World → Prop
  | .inl (z, s), V, _ => V = .iface 98 (.agg #[.int .i64 z, .string s])
  | .inr (.inl l), V, w => ∃ v, V = .iface 62 (.agg #[v]) ∧ OwnR 67 66 cellsQ B v l w
  | .inr (.inr (.inl l)), V, w => ∃ v, V = .iface 70 (.agg #[v]) ∧ OwnR 74 19 cellsH B v l w
  | .inr (.inr (.inr (.inl (z, h, u, l)))), V, w => ∃ v, V = .iface 44 (.agg #[.int .i64 z, .int .i64 h, .int .i64 u, v]) ∧ OwnR 80 4 cellsP B v l w
  | .inr (.inr (.inr (.inr (.inl (l, f, t, h, u))))), V, w => ∃ v, V = .iface 49 (.agg #[v, .int .i64 f, .int .i64 t, .int .i64 h, .int .i64 u]) ∧ OwnR 117 3 cellsK B v l w
  | .inr (.inr (.inr (.inr (.inr n)))), V, _ => V = .iface 76 (.agg #[.int .i64 n])
theorem SegV.on {B : Nat} {x : PS} {V : Value} {w w' : World} (h : SegV B x V w) (hb : Below w.heap.size w w') : SegV B x V w' := by
  rcases x with ⟨z, s⟩ | l | l | ⟨z, a, b, l⟩ | ⟨l, a, b, c, d⟩ | n
  · exact h
  · obtain ⟨v, h1, h2⟩ := h; exact ⟨v, h1, h2.on hb⟩
  · obtain ⟨v, h1, h2⟩ := h; exact ⟨v, h1, h2.on hb⟩
  · obtain ⟨v, h1, h2⟩ := h; exact ⟨v, h1, h2.on hb⟩
  · obtain ⟨v, h1, h2⟩ := h; exact ⟨v, h1, h2.on hb⟩
  · exact h
theorem OwnR.but {α : Type} {T : TypeId} {n B : Nat} {cs : α → Array Value} {v : Value} {l : List α} {w w' : World} {k : Nat} {a : Array Value} {t : TypeId} {f : Nat × Nat} (h : OwnR T n cs B v l w) (hk : w.heap[k]? = some (.cells a t f)) (ht : T ≠ t) (hb : But k w w') : OwnR T n cs B v l w' :=
  h.two (Two.left hb) hk hk ht ht
theorem SegV.but {B : Nat} {x : PS} {V : Value} {w w' : World} {k : Nat} {a : Array Value} {f : Nat × Nat} (h : SegV B x V w) (hk : w.heap[k]? = some (.cells a 87 f)) (hb : But k w w') : SegV B x V w' := by
  rcases x with ⟨z, s⟩ | l | l | ⟨z, b, d, l⟩ | ⟨l, b, d, e, g⟩ | n
  · exact h
  · obtain ⟨v, h1, h2⟩ := h; exact ⟨v, h1, h2.but hk (by decide) hb⟩
  · obtain ⟨v, h1, h2⟩ := h; exact ⟨v, h1, h2.but hk (by decide) hb⟩
  · obtain ⟨v, h1, h2⟩ := h; exact ⟨v, h1, h2.but hk (by decide) hb⟩
  · obtain ⟨v, h1, h2⟩ := h; exact ⟨v, h1, h2.but hk (by decide) hb⟩
  · exact h

/-- What the body of a code says, and the state behind it. -/
def rseg (z : Int) (s : ByteArray) : PS × (Nat × Nat) :=
  if z = 196 then (PS.huffs (rall (rhuff s) s (0, 0)).1, (rall (rhuff s) s (0, 0)).2)
  else if z = 218 then (PS.scan (rscan s (0, 0)).1.1 ((rscan s (0, 0)).1.2.1 : Nat) ((rscan s (0, 0)).1.2.2.1 : Nat) ((rscan s (0, 0)).1.2.2.2.1 : Nat) ((rscan s (0, 0)).1.2.2.2.2 : Nat), (rscan s (0, 0)).2)
  else if z = 219 then (PS.quants ((rall (rquant s) s (0, 0)).1.map qt), (rall (rquant s) s (0, 0)).2)
  else if z = 221 then (PS.rest ((rnum s 2 (0, 0)).1 : Nat), (rnum s 2 (0, 0)).2)
  else if 192 ≤ z ∧ z ≤ 194 then (PS.frame z ((rframe s (0, 0)).1.1 : Nat) ((rframe s (0, 0)).1.2.1 : Nat) (rframe s (0, 0)).1.2.2, (rframe s (0, 0)).2)
  else (PS.plain z s, (s.size, 0))
/-- Why it is refused; 0, if it is not. -/
def perr (z : Int) (s : ByteArray) : Nat :=
  if refu z ≠ 0 then refu z else if 65533 < s.size then 4 else (rneed (decide (s.size - (rseg z s).2.1 = 0)) 4 (rseg z s).2).2

theorem rowC_map {α β : Type} (cs : β → Array Value) (f : α → β) (l : List α) : rowC cs (l.map f) = rowC (fun a => cs (f a)) l := by
  simp [rowC, List.flatMap_map]
theorem OwnR.qt {B : Nat} {v : Value} {l : List (Nat × Nat × (Nat → Nat))} {w : World} (h : OwnR 67 66 quantC B v l w) : OwnR 67 66 cellsQ B v (l.map qt) w := by
  unfold OwnR at h ⊢
  rw [rowC_map, List.length_map]
  exact h
set_option maxHeartbeats 2000000 in
theorem segment_any (z : Int) (hz : refu z = 0) (B k c : Nat) (s : ByteArray) (hs : s.size ≤ 65533) (hB : 0 < B) (w : World) (hT : Tab w) (h : Rdd B k c s (0, 0) w) :
    Calls Tryd.prog 22 #[.pointer (some ⟨k, 0, none⟩), .int .i64 z] w fun e w' => ∃ V, e = .returned V ∧ SegV B (rseg z s).1 V w' ∧ Rdd B k c s (rseg z s).2 w' ∧ Below B w w' := by
  have hmx : s.size ≤ maxLen := by unfold maxLen; omega
  have HLO : Hid (∀ w', Two k c w w' → Below B w w') := fun w' hb => hb.below h.bk h.bc h.lt
  unfold rseg
  by_cases h1 : z = 196
  · rw [if_pos h1]
    subst h1
    have HC := Lib.hid (huffs_two B k c s hs w h)
    clear h hT hz
    go_enter Tryd.func22, Tryd.ntmps22
    go_wp2_with (go_at_call 43; refine HC.out.mono ?_; rintro e w1 ⟨v, rfl, ho, hr, hb⟩; have H1 := Lib.hid ho; have H2 := Lib.hid hr; have H3 := Lib.hid (HLO.out _ hb); clear ho hr hb HC)
    go_ret
    exact ⟨_, rfl, ⟨v, rfl, H1.out⟩, H2.out, H3.out⟩
  rw [if_neg h1]
  have e1 : (z == 196) = false := by rw [beq_eq_false_iff_ne]; exact h1
  clear h1
  by_cases h2 : z = 218
  · rw [if_pos h2]
    subst h2
    have HC := Lib.hid (scan_two B k c s hmx (0, 0) w h)
    clear h hT hz
    go_enter Tryd.func22, Tryd.ntmps22
    go_wp2_with (go_at_call 44; refine HC.out.mono ?_; rintro e w1 ⟨v, rfl, ho, hr, hb⟩; have H1 := Lib.hid ho; have H2 := Lib.hid hr; have H3 := Lib.hid (HLO.out _ hb); clear ho hr hb HC)
    go_ret
    exact ⟨_, rfl, ⟨v, rfl, H1.out⟩, H2.out, H3.out⟩
  rw [if_neg h2]
  have e2 : (z == 218) = false := by rw [beq_eq_false_iff_ne]; exact h2
  clear h2
  by_cases h3 : z = 219
  · rw [if_pos h3]
    subst h3
    have HC := Lib.hid (quants_two B k c s hs hB w hT h)
    clear h hT hz
    go_enter Tryd.func22, Tryd.ntmps22
    go_wp2_with (go_at_call 45; refine HC.out.mono ?_; rintro e w1 ⟨v, rfl, ho, hr, hb⟩; have H1 := Lib.hid ho.qt; have H2 := Lib.hid hr; have H3 := Lib.hid (HLO.out _ hb); clear ho hr hb HC)
    go_ret
    exact ⟨_, rfl, ⟨v, rfl, H1.out⟩, H2.out, H3.out⟩
  rw [if_neg h3]
  have e3 : (z == 219) = false := by rw [beq_eq_false_iff_ne]; exact h3
  clear h3
  by_cases h4 : z = 221
  · rw [if_pos h4]
    subst h4
    have HC := Lib.hid (num_two B k c s hmx (0, 0) 2 (by omega) (by omega) w h)
    clear h hT hz
    go_enter Tryd.func22, Tryd.ntmps22
    go_wp2_with (go_at_call 46; refine HC.out.mono ?_; rintro e w1 ⟨rfl, hr, hb⟩; have H2 := Lib.hid hr; have H3 := Lib.hid (HLO.out _ hb); clear hr hb HC)
    go_ret
    exact ⟨_, rfl, rfl, H2.out, H3.out⟩
  rw [if_neg h4]
  have e4 : (z == 221) = false := by rw [beq_eq_false_iff_ne]; exact h4
  clear h4
  by_cases h5 : 192 ≤ z ∧ z ≤ 194
  · rw [if_pos h5]
    have HW := Lib.hid (within_any z 192 194 true (decide_eq_true h5).symm)
    have HC := Lib.hid (frame_two B k c s hmx (0, 0) z w h)
    clear h hT hz h5
    go_enter Tryd.func22, Tryd.ntmps22
    go_wp2_with (first
      | (go_at_call 41; refine (HW.out w).mono ?_; rintro e w' ⟨rfl, rfl⟩; clear HW)
      | (go_at_call 47; refine HC.out.mono ?_; rintro e w1 ⟨v, rfl, ho, hr, hb⟩; have H1 := Lib.hid ho; have H2 := Lib.hid hr; have H3 := Lib.hid (HLO.out _ hb); clear ho hr hb HC))
    go_ret
    exact ⟨_, rfl, ⟨v, rfl, H1.out⟩, H2.out, H3.out⟩
  rw [if_neg h5]
  have hz2 : (224 ≤ z ∧ z ≤ 239) ∨ z = 254 := by
    unfold refu at hz
    simp only [beq_eq_false_iff_ne] at e1 e2 e3 e4
    split at hz
    · cases hz
    · split at hz
      · cases hz
      · split at hz
        · omega
        · cases hz
  exact (segment_plain z hz2 B k c s hmx w h).mono fun e w' ⟨a1, a2, a3⟩ => ⟨_, a1, rfl, a2, a3⟩
end Go.Proofs.YtfohgocdabgbgaaDoor
