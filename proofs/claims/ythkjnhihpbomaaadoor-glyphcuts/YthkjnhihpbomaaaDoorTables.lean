/- The listed tables: what they give to the walks; a world that holds them. -/
import Derived.Test.YthkjnhihpbomaaaDoorRows
import Derived.Test.YthkjnhihpbomaaaDoorTie
import Derived.Test.YthkjnhihpbomaaaDoorOwn
import Derived.PinnedBridge
import Derived.Lib.LaidTab
import Derived.Lib.LaidU8
namespace Go.Proofs.YthkjnhihpbomaaaDoor
open Go.RowKit

theorem u8x : U8Extra Tryd.prog Tryd.lays260_ren := ⟨by kernel_rfl, by kernel_rfl, by kernel_rfl, by kernel_rfl, by kernel_rfl, by kernel_rfl, by kernel_rfl⟩
theorem acc_eq : (Rows.laid_unicode_utf8_acceptRanges : DataW Unit) = Lib.acceptData := by kernel_rfl
theorem gBr : Tryd.prog.globalNamed "math/bits.deBruijn64tab" = some 4 := by kernel_rfl
theorem gBrType : (Tryd.prog.globals[4]?).map (·.type) = some 78 := by kernel_rfl
theorem cells78 : Tryd.prog.cellsOf 78 = 64 := by kernel_rfl
theorem cells5 : Tryd.prog.cellsOf 5 = 1 := by kernel_rfl
def brList : List Int := [0, 1, 56, 2, 57, 49, 28, 3, 61, 58, 42, 50, 38, 29, 17, 4, 62, 47, 59, 36, 45, 43, 51, 22, 53, 39, 33, 30, 24, 18, 12, 5, 63, 55, 48, 27, 60, 41, 37, 16, 46, 35, 44, 21, 52, 32, 23, 11, 54, 26, 40, 15, 34, 20, 31, 10, 25, 14, 19, 9, 13, 8, 7, 6]
theorem br_eq : (Rows.laid_math_bits_deBruijn64tab : DataW Unit) = Lib.tabData .u8 brList := by kernel_rfl

theorem tabs_of_laid {W : World} (h : laidMet Tryd.prog Rows.glyphBackRow.laid W) : Tabs W.heap.size W := by
  have h1 := Lib.laidMet.reads h (n := "unicode/utf8.first") (d := Rows.laid_unicode_utf8_first) (by simp [Rows.glyphBackRow])
  have h2 := Lib.laidMet.reads h (n := "unicode/utf8.acceptRanges") (d := Rows.laid_unicode_utf8_acceptRanges) (by simp [Rows.glyphBackRow])
  have h3 := Lib.laidMet.reads h (n := "math/bits.deBruijn64tab") (d := Rows.laid_math_bits_deBruijn64tab) (by simp [Rows.glyphBackRow])
  rw [acc_eq] at h2
  rw [show Rows.laid_unicode_utf8_first = Lib.firstData from Pinned.utf8First_eq] at h1
  rw [br_eq] at h3
  have hu : Lib.Utf8Tabs 0 1 W := utf8Tabs_of_reads Tryd.lays260 u8x h1 h2
  have hc : W.cell? ⟨4, 15, none⟩ = some (.int .u8 4) := by
    obtain ⟨g, t, cs, fuel, p, hg, hty, hvar, hd⟩ := h3
    obtain rfl := Option.some.inj (gBr.symm.trans hg)
    obtain rfl := Option.some.inj (gBrType.symm.trans hty)
    have hcs := Lib.cells_of_tab Tryd.underlying78 Tryd.underlying5 cells5 cells78 hd
    rw [World.var?_cell hg hvar 15, ← Array.getElem?_toList, hcs]
    rfl
  have h4 : 4 < W.heap.size := World.block_lt_of_cell? W ⟨4, 15, none⟩ hc
  exact ⟨h4, Nat.le_refl _, fun w' hb => Utf8Tabs_below hu hb, fun w' hb => by rw [hb.cell (p := ⟨4, 15, none⟩) h4]; exact hc⟩
end Go.Proofs.YthkjnhihpbomaaaDoor
