/- A walk: a cut text is a beginning that cuts no rune. -/
import Derived.Test.YthkjnhihpbomaaaDoorAwake
import Derived.Test.YthkjnhihpbomaaaDoorCutPlain
import Derived.BigQuiet
import Derived.Outline
namespace Go.Proofs.YthkjnhihpbomaaaDoor
open Go.RowKit

theorem wrap_small (z : Int) (h0 : 0 ≤ z) (h1 : z ≤ 20000) : IntKind.i64.wrap z = z := by
  simp only [IntKind.wrap, IntKind.bits, IntKind.signed]
  simp
  omega
theorem below_step {B : Nat} {w W W' : World} (h : Below B w W) (hB : B ≤ w.heap.size) (h2 : Below W.heap.size W W') : Below B w W' := h.trans (h2.mono (Nat.le_trans hB h.size))

/-- A world that lies over 'w'. -/
structure Bel (w : World) where
  W : World
  h : Below w.heap.size w W
theorem nonempty_bel (w : World) : Nonempty (Bel w) := ⟨⟨w, Below.refl _ _⟩⟩
theorem bel_of {P : Program} {f : FuncId} {args : Array Value} {w : World} {x : Bel w} {v : Value} (h : Calls P f args x.W fun e w' => e = .returned v ∧ Below x.W.heap.size x.W w') : Calls P f args x.W fun e w'' => e = .returned v ∧ ∃ y : Bel w, w'' = y.W :=
  h.mono fun _ w' ⟨he, hb⟩ => ⟨he, ⟨w', below_step x.h (Nat.le_refl _) hb⟩, rfl⟩
theorem wp_region_bel {P : Program} {id : Nat} {Q : Exit → Act → World → Prop} {a : Act} {w W : World} {l : List Oper} (hb : Below w.heap.size w W) (hm : P.follows .mixedOrders = true) (hB : Region.lexB .any l.toArray = true)
    (h : wpQuiet P l.toArray (fun W' => ∃ x : Bel w, W' = x.W) (fun a' => ∀ W', (∃ x : Bel w, W' = x.W) → Q .normal a' W') l a) : (Code.region id l.toArray true).wp P Q a W :=
  wp_region_quiet (C := fun W' => ∃ x : Bel w, W' = x.W) hm hB ⟨⟨_, hb.drew⟩, rfl⟩ (by simpa using h)

set_option maxRecDepth 100000 in
set_option maxHeartbeats 4000000 in
theorem GlyphCuts_any (s : ByteArray) (n : Int) (w : World) (B : Nat) (hT : Tabs B w) (hn : -9223372036854775808 ≤ n ∧ n ≤ 9223372036854775807) : Calls Tryd.prog 4 #[.string s, .int .i64 n] w fun e w' => e = .returned (.bool true) ∧ Below w.heap.size w w' := by
  have HA := Lib.hid (awake_any w B hT)
  have HT := Lib.hid hT
  clear hT
  by_cases ha : 5000 < (s.size : Int)
  · go_enter Tryd.func4, Tryd.ntmps4
    go_wp2_with (go_at_call 11; refine HA.out.mono ?_; rintro e w' ⟨rfl, hb1⟩)
    go_ret
    exact ⟨rfl, hb1⟩
  · clear HA
    have hc0 := Cut_any s (by omega) n w
    have hsz := cut_size s n
    have hle := cutEnd_le s n
    have hcc := cut_count s n
    have hbd := cutEnd_bound s n
    have hpre : s.extract 0 (cut s n).size = cut s n := by rw [hsz]; rfl
    rw [← hsz] at hle hcc hbd
    clear hsz
    have hcs : count s ≤ 5000 := by
      have key : ∀ f p, cntFrom s f p ≤ s.size - p := by
        intro f
        induction f with
        | zero => intro p; simp [cntFrom]
        | succ f ih =>
          intro p
          by_cases h : p < s.size
          · rw [cntFrom_on s f p h]
            have := ih (p + (Utf8.decode s p).2)
            have := width_pos s p h
            omega
          · rw [cntFrom_end s _ p h]; omega
      have := key s.size 0
      unfold count
      omega
    generalize cut s n = t at hc0 hle hcc hbd hpre
    obtain ⟨hb1, hb2⟩ := hbd
    have C0 := Lib.hid hc0
    have Pre := Lib.hid hpre
    clear hc0 hpre
    have hp1 : (s.extract 0 t.size).toList = t.toList := by rw [Pre.out]
    have hts : t.size ≤ 5000 := by omega
    have hrs : (s.extract t.size s.size).size ≤ 5000 := by rw [ByteArray.size_extract]; omega
    have hcnt : (((count t : Nat) : Int) + ((count (s.extract t.size s.size) : Nat) : Int) == ((count s : Nat) : Int)) = true := beq_iff_eq.2 (by omega)
    have hct : count t ≤ 5000 := by omega
    have hcr : count (s.extract t.size s.size) ≤ 5000 := by omega
    have AW : Hid (∀ x : Bel w, Calls Tryd.prog 11 #[] x.W fun e w' => e = .returned (.bool true) ∧ Below x.W.heap.size x.W w') := fun x => awake_any x.W _ (HT.out.top.on x.h)
    have CT : Hid (∀ W, Calls Tryd.prog 16 #[.string t] W fun e w' => e = .returned (.int .i64 (count t : Nat)) ∧ Below W.heap.size W w') := fun W => Count_any t (by omega) W
    have CR : Hid (∀ W, Calls Tryd.prog 16 #[.string (s.extract t.size s.size)] W fun e w' => e = .returned (.int .i64 (count (s.extract t.size s.size) : Nat)) ∧ Below W.heap.size W w') := fun W => Count_any _ (by omega) W
    have CS : Hid (∀ W, Calls Tryd.prog 16 #[.string s] W fun e w' => e = .returned (.int .i64 (count s : Nat)) ∧ Below W.heap.size W w') := fun W => Count_any s (by omega) W
    clear hcc hrs HT
    generalize count t = x1 at hcnt hct CT
    generalize count (s.extract t.size s.size) = x2 at hcnt hcr CR
    generalize count s = x3 at hcnt hcs CS
    have hw12 : IntKind.i64.wrap ((x1 : Int) + (x2 : Int)) = (x1 : Int) + (x2 : Int) := wrap_small _ (by omega) (by omega)
    have hcnt2 : (IntKind.i64.wrap ((x1 : Int) + (x2 : Int)) == (x3 : Int)) = true := by rw [hw12]; exact hcnt
    clear hw12
    by_cases c1 : t.size = s.size
    · have c1' : ((t.size : Int) == (s.size : Int)) = true := beq_iff_eq.2 (by omega)
      have c1b : (t.size == s.size) = true := beq_iff_eq.2 c1
      clear hb2 c1
      go_enter Tryd.func4, Tryd.ntmps4
      go_wp2_with fail
      go_at_call 15
      refine C0.out.mono ?_
      rintro e w1 ⟨rfl, b1⟩
      go_wp2
      have hnb := nonempty_bel
      refine wp_region_bel b1 (by kernel_rfl) (by kernel_rfl) ?_
      repeat (go_big_quiet_step (first
        | (go_at_call 11; exact bel_of (AW.out _))
        | (go_at_call_of 16 (Value.string t); exact bel_of (CT.out _))
        | (go_at_call_of 16 (Value.string s); exact bel_of (CS.out _))
        | (go_at_call 16; exact bel_of (CR.out _))))
      refine wpQuiet_nil ?_
      intro _ hw'
      obtain ⟨x, hw''⟩ := hw'
      subst hw''
      have fin := x.h
      go_wp2
      go_ret
      exact ⟨rfl, fin⟩
    · have c1' : ((t.size : Int) == (s.size : Int)) = false := beq_eq_false_iff_ne.2 (by omega)
      have c1b : (t.size == s.size) = false := beq_eq_false_iff_ne.2 c1
      by_cases c2 : n < 0
      · have c2' : decide (n < 0) = true := decide_eq_true c2
        clear hb2
        go_enter Tryd.func4, Tryd.ntmps4
        go_wp2_with fail
        go_at_call 15
        refine C0.out.mono ?_
        rintro e w1 ⟨rfl, b1⟩
        go_wp2
        have hnb := nonempty_bel
        refine wp_region_bel b1 (by kernel_rfl) (by kernel_rfl) ?_
        repeat (go_big_quiet_step (first
          | (go_at_call 11; exact bel_of (AW.out _))
          | (go_at_call_of 16 (Value.string t); exact bel_of (CT.out _))
          | (go_at_call_of 16 (Value.string s); exact bel_of (CS.out _))
          | (go_at_call 16; exact bel_of (CR.out _))))
        refine wpQuiet_nil ?_
        intro _ hw'
        obtain ⟨x, hw''⟩ := hw'
        subst hw''
        have fin := x.h
        go_wp2
        go_ret
        exact ⟨rfl, fin⟩
      · have c2' : decide (n < 0) = false := decide_eq_false c2
        have c3 : n - (t.size : Int) < 4 := by omega
        have c3' : decide (n - (t.size : Int) < 4) = true := decide_eq_true c3
        clear hb2
        go_enter Tryd.func4, Tryd.ntmps4
        go_wp2_with fail
        go_at_call 15
        refine C0.out.mono ?_
        rintro e w1 ⟨rfl, b1⟩
        go_wp2
        have hnb := nonempty_bel
        refine wp_region_bel b1 (by kernel_rfl) (by kernel_rfl) ?_
        repeat (go_big_quiet_step (first
          | (go_at_call 11; exact bel_of (AW.out _))
          | (go_at_call_of 16 (Value.string t); exact bel_of (CT.out _))
          | (go_at_call_of 16 (Value.string s); exact bel_of (CS.out _))
          | (go_at_call 16; exact bel_of (CR.out _))))
        refine wpQuiet_nil ?_
        intro _ hw'
        obtain ⟨x, hw''⟩ := hw'
        subst hw''
        have fin := x.h
        go_wp2
        go_ret
        exact ⟨rfl, fin⟩
end Go.Proofs.YthkjnhihpbomaaaDoor
