/- A world in which the listed table is laid. -/
import Derived.Test.YtfohgocdabgbgaaDoorRows
import Derived.Test.YtfohgocdabgbgaaDoorTie
import Derived.PinnedBridge
import Derived.ProofKit
import Derived.OpenShut
import Derived.Deep.DeepHandedRow
import Derived.Test.YtfohgocdabgbgaaDoorZWalk
import Derived.Lib.LaidTab
import Derived.Lib.LaidU8
namespace Go.Proofs.YtfohgocdabgbgaaDoor
open Go.RowKit

/-! A world in which the listed table is laid. -/
open Go.ChangeShapes Go.WideShapes Go.ChangeAt Go.RowKit

def ztl : List Nat := [0, 1, 8, 16, 9, 2, 3, 10, 17, 24, 32, 25, 18, 11, 4, 5, 12, 19, 26, 33, 40, 48, 41, 34, 27, 20, 13, 6, 7, 14, 21, 28, 35, 42, 49, 56, 57, 50, 43, 36, 29, 22, 15, 23, 30, 37, 44, 51, 58, 59, 52, 45, 38, 31, 39, 46, 53, 60, 61, 54, 47, 55, 62, 63]
def putCells (cs : Array Value) : Obj → Obj
  | .cells _ t frozen => .cells cs t frozen
  | o => o
/-- A world with the table laid. -/
def lay (w : World) : World := { w with heap := w.heap.modify 0 (putCells (ztl.map fun (n : Nat) => Value.int .u8 n).toArray) }
theorem own : ownKnob Tryd.prog.godebug = none := by kernel_rfl
theorem laidOut : laidOutB Tryd.prog = true := by kernel_rfl
theorem laid_met_i (os : Os) : laidMet Tryd.prog Rows.segBaresRow.laid ((lay (World.holding Tryd.prog os ⟨#[], #[], []⟩)).forCall (fun _ _ => 0) ⟨#[], #[.int .i64 0], []⟩).memory :=
  laidMet_of_run' 8 (by kernel_rfl) (by kernel_rfl)
theorem laid_met_is (os : Os) : laidMet Tryd.prog Rows.segBaresRow.laid ((lay (World.holding Tryd.prog os ⟨#[], #[], []⟩)).forCall (fun _ _ => 0) ⟨#[], #[.int .i64 0, .string ⟨#[]⟩], []⟩).memory :=
  laidMet_of_run' 8 (by kernel_rfl) (by kernel_rfl)
/-! The listed table: what it gives to the walks. -/
open Go.ChangeShapes Go.WideShapes Go.ChangeAt Go.RowKit

def ztI : List Int := ztl.map Int.ofNat
theorem gZig : Tryd.prog.globalNamed "aquatint/zig.zigzag" = some 0 := by kernel_rfl
theorem gZigType : (Tryd.prog.globals[0]?).map (·.type) = some 155 := by kernel_rfl
theorem cells155 : Tryd.prog.cellsOf 155 = 64 := by kernel_rfl
theorem cells5 : Tryd.prog.cellsOf 5 = 1 := by kernel_rfl
theorem zig_eq : (Rows.laid_aquatint_zig_zigzag : DataW Unit) = Lib.tabData .u8 ztI := by kernel_rfl
theorem ztI_at : ∀ k, k < 64 → ztI[k]? = some ((zz k : Nat) : Int) := by decide +kernel
theorem tab_of_laid {W : World} (h : laidMet Tryd.prog Rows.segBaresRow.laid W) : Tab W := by
  have h3 := Lib.laidMet.reads h (n := "aquatint/zig.zigzag") (d := Rows.laid_aquatint_zig_zigzag) (by simp [Rows.segBaresRow])
  rw [zig_eq] at h3
  obtain ⟨g, t, cs, fuel, p, hg, hty, hvar, hd⟩ := h3
  obtain rfl := Option.some.inj (gZig.symm.trans hg)
  obtain rfl := Option.some.inj (gZigType.symm.trans hty)
  have hcs := Lib.cells_of_tab Tryd.underlying155 Tryd.underlying5 cells5 cells155 hd
  have hc : ∀ k, k < 64 → W.cell? ⟨0, k, none⟩ = some (.int .u8 (zz k : Nat)) := by
    intro k hk
    rw [World.var?_cell hg hvar k, ← Array.getElem?_toList, hcs, List.getElem?_map, ztI_at k hk]
    rfl
  exact ⟨World.block_lt_of_cell? W ⟨0, 0, none⟩ (hc 0 (by decide)), hc⟩
end Go.Proofs.YtfohgocdabgbgaaDoor
