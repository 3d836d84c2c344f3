/- BestOrder: its walk. -/
import Derived.Test.YtlfnjdgfllhepaaBOrdQ
import Derived.Test.YtlfnjdgfllhepaaBRights
namespace Go.Proofs.Ytlfnjdgfllhepaa
open Go.RowKit

theorem wpQuiet_ints {ops : Array Oper} {C : World → Prop} {Q : Act → Prop} {rest : List Oper} {o : Oper} {a : Act} (x : Operand) (ho : o.op = .load 22 x) (hw : Region.wanted o (yielded ops a.tmps) = true)
    (g : Nat) (hx : a.eval x = .pointer (some ⟨g, 0, none⟩)) (f : Nat → Int) (hg : ∀ w, C w → RowN 22 256 g f w)
    (h : wpQuiet Try.prog ops C Q rest (a.put o.dst (.agg (ints 256 f)))) : wpQuiet Try.prog ops C Q (o :: rest) a := by
  unfold wpQuiet
  rw [if_pos hw]
  refine ⟨.agg (ints 256 f), fun w hC => ?_, h⟩
  unfold Oper.quietAt execOp
  simp only [ho, hx, Instr.loadAt, Instr.sureAddr, Sem.run_bind, Sem.run_pure, Result.andThen_ok, run_loadVar_row w g 22 22 _ (0, 0) _ (hg w hC) Try.underlying22 rfl (size22i _)]
  exact ⟨rfl, rfl⟩
theorem bel_ints {g : Nat} {f : Nat → Int} {w : World} (h : RowN 22 256 g f w) : ∀ W, (∃ x : Bel w, W = x.W) → RowN 22 256 g f W := by
  rintro W ⟨x, rfl⟩
  exact h.on x.h

set_option maxHeartbeats 1000000 in
set_option maxRecDepth 100000 in
theorem order_skip (fi : Nat → Int) (a b : Nat) (ha : a < 256) (hb : b < 256) (r : Bool) (hr : ∀ w, Calls Try.prog 9 #[.agg (ints 256 fi)] w fun e w' => e = .returned (.bool r) ∧ Below w.heap.size w w')
    (h : r = false ∨ fi a ≤ fi b ∨ fi b = 0) (w : World) :
    Calls Try.prog 4 #[.agg (ints 256 fi), .int .u8 a, .int .u8 b] w fun e w' => e = .returned (.bool true) ∧ Below w.heap.size w w' := by
  obtain ⟨wb, hwb⟩ : ∃ wb, wb = w.alloc (.cells (ints 256 fi) 22) := ⟨_, rfl⟩
  have HS : Hid (ASt w.heap.size fi w wb) := hwb ▸ ASt.start fi w
  have HR := Lib.hid hr
  have HA := Lib.hid awake_any
  have HI := Lib.hid (bel_ints HS.out.arg)
  have hnb := nonempty_bel
  have ha' : (a : Int) < 256 := by omega
  have hb' : (b : Int) < 256 := by omega
  have x0 : ∀ x : Bel wb, x.W.cell? ⟨w.heap.size, a, none⟩ = some (.int .i64 (fi a)) := fun x => (HS.out.arg.on x.h).cell ha
  have x1 : ∀ x : Bel wb, x.W.cell? ⟨w.heap.size, b, none⟩ = some (.int .i64 (fi b)) := fun x => (HS.out.arg.on x.h).cell hb
  clear hr
  cases r with
  | false =>
    clear h
    go_enter Try.func4, Try.ntmps4
    go_upto_region 1 with fail
    rw [← hwb]
    clear hwb
    refine wp_region_bel (w := wb) (Below.refl _ _) (by kernel_rfl) (by kernel_rfl) ?_
    refine wpQuiet_ints _ rfl (by rfl) w.heap.size rfl fi HI.out ?_
    repeat quiet_step (first | (go_at_call 9; exact bel_of (HR.out _)))
    refine wpQuiet_nil ?_
    rintro _ ⟨z, rfl⟩
    go_wp2_with (go_at_call 10; refine (HA.out _).mono ?_; rintro e w2 ⟨rfl, hb2⟩; have HS2 := Lib.hid ((HS.out.on z.h).on hb2); clear hb2 HA)
    go_ret
    exact ⟨rfl, HS2.out.low⟩
  | true =>
    by_cases h1 : fi a ≤ fi b
    · clear h
      go_enter Try.func4, Try.ntmps4
      go_upto_region 1 with fail
      rw [← hwb]
      clear hwb
      refine wp_region_bel (w := wb) (Below.refl _ _) (by kernel_rfl) (by kernel_rfl) ?_
      refine wpQuiet_ints _ rfl (by rfl) w.heap.size rfl fi HI.out ?_
      repeat quiet_step (first | (go_at_call 9; exact bel_of (HR.out _)))
      refine wpQuiet_nil ?_
      rintro _ ⟨z, rfl⟩
      go_wp2_with (go_at_call 10; refine (HA.out _).mono ?_; rintro e w2 ⟨rfl, hb2⟩; have HS2 := Lib.hid ((HS.out.on z.h).on hb2); clear hb2 HA)
      go_ret
      exact ⟨rfl, HS2.out.low⟩
    · have h2 : fi b = 0 := by
        rcases h with h | h | h
        · cases h
        · exact absurd h h1
        · exact h
      rw [h2] at x1 h1
      clear h h2
      go_enter Try.func4, Try.ntmps4
      go_upto_region 1 with fail
      rw [← hwb]
      clear hwb
      refine wp_region_bel (w := wb) (Below.refl _ _) (by kernel_rfl) (by kernel_rfl) ?_
      refine wpQuiet_ints _ rfl (by rfl) w.heap.size rfl fi HI.out ?_
      repeat quiet_step (first | (go_at_call 9; exact bel_of (HR.out _)))
      refine wpQuiet_nil ?_
      rintro _ ⟨z, rfl⟩
      go_wp2_with (go_at_call 10; refine (HA.out _).mono ?_; rintro e w2 ⟨rfl, hb2⟩; have HS2 := Lib.hid ((HS.out.on z.h).on hb2); clear hb2 HA)
      go_ret
      exact ⟨rfl, HS2.out.low⟩
end Go.Proofs.Ytlfnjdgfllhepaa
