/- The listed table: what it gives to the walks. -/
import Derived.Test.YtfohgocdabgbgaaDoorSLay
import Derived.Test.YtfohgocdabgbgaaDoorZWalk
import Derived.Lib.LaidTab
import Derived.Lib.LaidU8
namespace Go.Proofs.YtfohgocdabgbgaaDoor
open Go.ChangeShapes Go.WideShapes Go.ChangeAt Go.RowKit

def ztI : List Int := ztl.map Int.ofNat
theorem gZig : Tryd.prog.globalNamed "aquatint/zig.zigzag" = some 0 := by kernel_rfl
theorem gZigType : (Tryd.prog.globals[0]?).map (·.type) = some 155 := by kernel_rfl
theorem cells155 : Tryd.prog.cellsOf 155 = 64 := by kernel_rfl
theorem cells5 : Tryd.prog.cellsOf 5 = 1 := by kernel_rfl
theorem zig_eq : (Rows.laid_aquatint_zig_zigzag : DataW Unit) = Lib.tabData .u8 ztI := by kernel_rfl
theorem ztI_at : ∀ k, k < 64 → ztI[k]? = some ((zz k : Nat) : Int) := by decide +kernel
theorem tab_of_laid {W : World} (h : laidMet Tryd.prog Rows.segBaresRow.laid W) : Tab W := by
  have h3 := Lib.laidMet.reads h (n := "aquatint/zig.zigzag") (d := Rows.laid_aquatint_zig_zigzag) (by simp [Rows.segBaresRow])
  rw [zig_eq] at h3
  obtain ⟨g, t, cs, fuel, p, hg, hty, hvar, hd⟩ := h3
  obtain rfl := Option.some.inj (gZig.symm.trans hg)
  obtain rfl := Option.some.inj (gZigType.symm.trans hty)
  have hcs := Lib.cells_of_tab Tryd.underlying155 Tryd.underlying5 cells5 cells155 hd
  have hc : ∀ k, k < 64 → W.cell? ⟨0, k, none⟩ = some (.int .u8 (zz k : Nat)) := by
    intro k hk
    rw [World.var?_cell hg hvar k, ← Array.getElem?_toList, hcs, List.getElem?_map, ztI_at k hk]
    rfl
  exact ⟨World.block_lt_of_cell? W ⟨0, 0, none⟩ (hc 0 (by decide)), hc⟩
end Go.Proofs.YtfohgocdabgbgaaDoor
