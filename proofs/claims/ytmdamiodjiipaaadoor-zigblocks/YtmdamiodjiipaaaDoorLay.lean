/- The listed table: what it gives to the walks; a world that holds it; a block that came in. -/
import Derived.Test.YtmdamiodjiipaaaDoorRows
import Derived.Test.YtmdamiodjiipaaaDoorTie
import Derived.Test.YtmdamiodjiipaaaDoorEq
import Derived.PinnedBridge
import Derived.Lib.LaidTab
import Derived.Lib.LaidU8
import Derived.ProofKit
import Derived.OpenShut
import Derived.Deep.DeepHandedRow
namespace Go.Proofs.YtmdamiodjiipaaaDoor
open Go.ChangeShapes Go.WideShapes Go.ChangeAt Go.RowKit

def ztI : List Int := zt.map Int.ofNat
theorem gZig : Tryd.prog.globalNamed "aquatint/zig.zigzag" = some 0 := by kernel_rfl
theorem gZigType : (Tryd.prog.globals[0]?).map (·.type) = some 38 := by kernel_rfl
theorem cells38 : Tryd.prog.cellsOf 38 = 64 := by kernel_rfl
theorem cells5 : Tryd.prog.cellsOf 5 = 1 := by kernel_rfl
theorem zig_eq : (Rows.laid_aquatint_zig_zigzag : DataW Unit) = Lib.tabData .u8 ztI := by kernel_rfl
theorem ztI_at : ∀ k, k < 64 → ztI[k]? = some ((zz k : Nat) : Int) := by decide +kernel

theorem tab_of_laid {W : World} (h : laidMet Tryd.prog Rows.zigBackRow.laid W) : Tab W := by
  have h3 := Lib.laidMet.reads h (n := "aquatint/zig.zigzag") (d := Rows.laid_aquatint_zig_zigzag) (by simp [Rows.zigBackRow])
  rw [zig_eq] at h3
  obtain ⟨g, t, cs, fuel, p, hg, hty, hvar, hd⟩ := h3
  obtain rfl := Option.some.inj (gZig.symm.trans hg)
  obtain rfl := Option.some.inj (gZigType.symm.trans hty)
  have hcs := Lib.cells_of_tab Tryd.underlying38 Tryd.underlying5 cells5 cells38 hd
  have hc : ∀ k, k < 64 → W.cell? ⟨0, k, none⟩ = some (.int .u8 (zz k : Nat)) := by
    intro k hk
    rw [World.var?_cell hg hvar k, ← Array.getElem?_toList, hcs, List.getElem?_map, ztI_at k hk]
    rfl
  exact ⟨World.block_lt_of_cell? W ⟨0, 0, none⟩ (hc 0 (by decide)), hc⟩

def putCells (cs : Array Value) : Obj → Obj
  | .cells _ t frozen => .cells cs t frozen
  | o => o
/-- A world with the table laid. -/
def lay (w : World) : World := { w with heap := w.heap.modify 0 (putCells (blk .u8 fun k => (zz k : Nat))) }
theorem own : ownKnob Tryd.prog.godebug = none := by kernel_rfl
theorem laidOut : laidOutB Tryd.prog = true := by kernel_rfl
theorem laid_met_b (os : Os) : laidMet Tryd.prog Rows.zigBackRow.laid ((lay (World.holding Tryd.prog os ⟨#[], #[], []⟩)).forCall (fun _ _ => 0) ⟨#[], #[.agg (blk .i16 fun _ => 0)], []⟩).memory :=
  laidMet_of_run' 8 (by kernel_rfl) (by kernel_rfl)
theorem laid_met_u (os : Os) : laidMet Tryd.prog Rows.zigBackRow.laid ((lay (World.holding Tryd.prog os ⟨#[], #[], []⟩)).forCall (fun _ _ => 0) ⟨#[], #[.agg (blk .u16 fun _ => 0)], []⟩).memory :=
  laidMet_of_run' 8 (by kernel_rfl) (by kernel_rfl)
theorem laid_met_i (os : Os) : laidMet Tryd.prog Rows.zigBackRow.laid ((lay (World.holding Tryd.prog os ⟨#[], #[], []⟩)).forCall (fun _ _ => 0) ⟨#[], #[.int .i64 0], []⟩).memory :=
  laidMet_of_run' 8 (by kernel_rfl) (by kernel_rfl)

/-- A block that came in. -/
theorem open_blk {H : Type} {enc : TypeId × Value → H} {P : Program} {w : World} {base b0 : Nat} {sp : Nat → Bool} {held : Bool} {r : Reach} {t e : TypeId} {K : IntKind} {v : Value} {d : DataW H} {ps : List MemPlace} (ht : P.underlying t = some (.array 64 e)) (he : P.underlying e = some (.int K)) (hce : P.cellsOf e = 1) (hct : P.cellsOf t = 64)
    (hval : Value.okWide P w r b0 t v) (hd : DataW.Trod enc P w base sp held t v d ps) : ∃ f : Nat → Int, v = .agg (blk K f) ∧ ∀ i, i < 64 → (Lit.int K (f i)).wf = true := by
  simp only [Value.okWide, ht] at hval
  obtain ⟨cs, rfl, hsz, _⟩ := hval
  obtain ⟨fuel, hf⟩ := hd
  obtain ⟨xs, m, _, _, hlen, hxl, hall⟩ := DataW.trod_array ht hf
  rw [hce] at hall
  simp only [Nat.mul_one, Value.cells] at hall
  rw [hct] at hsz
  have hcell : ∀ i, i < 64 → ∃ n, cs[i]? = some (.int K n) ∧ (Lit.int K n).wf = true := by
    intro i hi
    have h1 := hall i hi
    have hx : ∃ x, xs[i]? = some x := ⟨xs[i]'(by omega), by simp [hxl, hi]⟩
    obtain ⟨x, hx⟩ := hx
    rw [hx] at h1
    obtain ⟨n, hn, _, hw⟩ := DataW.trod_int he h1
    refine ⟨n, ?_, hw⟩
    have hi' : i < cs.toList.length := by simp [hsz, hi]
    rw [List.drop_eq_getElem_cons hi'] at hn
    simp at hn
    simp [hsz, hi, hn]
  refine ⟨fun i => match cs[i]? with | some (.int _ n) => n | _ => 0, ?_, fun i hi => ?_⟩
  · congr 1
    apply Array.ext_getElem?
    intro i
    by_cases hi : i < 64
    · obtain ⟨n, hn, _⟩ := hcell i hi
      rw [blk_at K _ i hi, hn]
    · rw [Array.getElem?_eq_none (by omega), Array.getElem?_eq_none (by rw [blk_size]; omega)]
  · obtain ⟨n, hn, hw⟩ := hcell i hi
    simp only [hn]
    exact hw
end Go.Proofs.YtmdamiodjiipaaaDoor
