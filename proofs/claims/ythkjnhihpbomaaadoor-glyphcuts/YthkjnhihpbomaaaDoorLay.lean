/- A world in which the listed tables lie. -/
import Derived.Test.YthkjnhihpbomaaaDoorTables
import Derived.WalkKit
import Derived.ProofKit
import Derived.OpenShut
import Derived.Deep.DeepHandedRow
namespace Go.Proofs.YthkjnhihpbomaaaDoor
open Go.ChangeShapes Go.WideShapes Go.ChangeAt Go.RowKit

def br32List : List Int := [0, 1, 28, 2, 29, 14, 24, 3, 30, 22, 20, 15, 25, 17, 4, 8, 31, 27, 13, 23, 21, 19, 16, 7, 26, 12, 18, 6, 11, 5, 10, 9]
def pow10List : List Int := [1, 10, 100, 1000, 10000, 100000, 1000000, 10000000, 100000000, 1000000000, 10000000000, 100000000000, 1000000000000, 10000000000000, 100000000000000, 1000000000000000, 10000000000000000, 100000000000000000, 1000000000000000000, 10000000000000000000]
def firstCells : Array Value := ((List.range 256).map fun i => Value.int .u8 (Lib.firstT i : Int)).toArray
def accCells : Array Value := ((List.range 16).flatMap fun i => [Value.int .u8 (Lib.accLo i : Int), Value.int .u8 (Lib.accHi i : Int)]).toArray
def cellsOfInts (k : IntKind) (l : List Int) : Array Value := (l.map fun z => Value.int k z).toArray
def putCells (cs : Array Value) : Obj → Obj
  | .cells _ t frozen => .cells cs t frozen
  | o => o
/-- A world with the five tables laid. -/
def lay (w : World) : World := { w with heap := ((((w.heap.modify 0 (putCells firstCells)).modify 1 (putCells accCells)).modify 2 (putCells (cellsOfInts .u64 pow10List))).modify 3 (putCells (cellsOfInts .u8 br32List))).modify 4 (putCells (cellsOfInts .u8 brList)) }

theorem own : ownKnob Tryd.prog.godebug = none := by kernel_rfl
theorem laid_met1 (os : Os) : laidMet Tryd.prog Rows.glyphBackRow.laid ((lay (World.holding Tryd.prog os ⟨#[], #[], []⟩)).forCall (fun _ _ => 0) ⟨#[], #[.string ⟨#[]⟩], []⟩).memory :=
  laidMet_of_run' 8 (by kernel_rfl) (by kernel_rfl)
theorem laid_met2 (os : Os) : laidMet Tryd.prog Rows.glyphBackRow.laid ((lay (World.holding Tryd.prog os ⟨#[], #[], []⟩)).forCall (fun _ _ => 0) ⟨#[], #[.string ⟨#[]⟩, .string ⟨#[]⟩], []⟩).memory :=
  laidMet_of_run' 8 (by kernel_rfl) (by kernel_rfl)
theorem laid_met3 (os : Os) : laidMet Tryd.prog Rows.glyphBackRow.laid ((lay (World.holding Tryd.prog os ⟨#[], #[], []⟩)).forCall (fun _ _ => 0) ⟨#[], #[.string ⟨#[]⟩, .int .i64 0], []⟩).memory :=
  laidMet_of_run' 8 (by kernel_rfl) (by kernel_rfl)
end Go.Proofs.YthkjnhihpbomaaaDoor
