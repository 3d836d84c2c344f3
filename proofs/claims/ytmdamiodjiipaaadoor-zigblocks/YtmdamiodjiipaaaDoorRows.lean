/-
  NARROWER THAN 'FOR EVERY INPUT', by the rows' own cells (each row's printed sentence says how): ZigBack: laid · ZigLines: laid · ZigOrders: laid · ZigBlocks: laid · ZigTables: laid · ZigLast: laid.
  DERIVED. THE GIVEN ROWS OF THIS SEAT. 6 by the template 'for every input the law returns true; each argument reads behind the call as it read before'; 0 by the template 'total and deterministic' (their statements: YtmdamiodjiipaaaDoorTotals.lean).
  GIVEN WITH THE SEED: the statements are not yours to turn. If you find one false, say at which input.
  Laid BY PROGRAM, IN A SANDBOX (cutbox-rows.mjs): the forced cells as the released guide's own fill.sh prints them over the translation 29bab98bb7d0009d… (all of the seat's roots in one cut). By AI agents, Wed Nov 11 2026. No macro, syntax, notation, axiom, sorry.
-/
import Derived.Test.YtmdamiodjiipaaaDoorChecked
import GoSem.Claim
import GoSem.ClaimJoined
import GoSem.ClaimMapViews
import Derived.JoinedTies
import Derived.KernelRfl
namespace Go.Proofs.YtmdamiodjiipaaaDoor
/- THE CELL 'sum', in the pinned program and in every row, IS THE sha256 OF THE DUMP (.gsa) THAT YtmdamiodjiipaaaDoorProg.lean LOADS. Nothing in Lean hashes anything: it is a label: what it is worth is what the hold of that sum in a sandbox is worth. -/
noncomputable def Tryd.pinned : Pinned := { name := "ytmdamiodjiipaaadoor", sum := "29bab98bb7d0009d54135936adbefdb13bfc34d5e522cb1ce707bd515f995d30", checked := Tryd.checked }
namespace Rows
def none {H : Type} : Left H := { results := [], args := [] }

/- WHAT THE LISTED PACKAGE-LEVEL VARIABLES READ AS WHEN THE CALL BEGINS. Each datum BY PROGRAM (the guide's laid-datum.mjs) off the statement by which the dump's own 'gosem.cut.vars' lays the variable. In a bare row this is a premise. The card (YtmdamiodjiipaaaDoorCards.lean) ties it to the program's text. -/
def laid_aquatint_zig_zigzag {H : Type} : DataW H := .agg [.lit (.int .u8 0), .lit (.int .u8 1), .lit (.int .u8 8), .lit (.int .u8 16), .lit (.int .u8 9), .lit (.int .u8 2), .lit (.int .u8 3), .lit (.int .u8 10), .lit (.int .u8 17), .lit (.int .u8 24), .lit (.int .u8 32), .lit (.int .u8 25), .lit (.int .u8 18), .lit (.int .u8 11), .lit (.int .u8 4), .lit (.int .u8 5), .lit (.int .u8 12), .lit (.int .u8 19), .lit (.int .u8 26), .lit (.int .u8 33), .lit (.int .u8 40), .lit (.int .u8 48), .lit (.int .u8 41), .lit (.int .u8 34), .lit (.int .u8 27), .lit (.int .u8 20), .lit (.int .u8 13), .lit (.int .u8 6), .lit (.int .u8 7), .lit (.int .u8 14), .lit (.int .u8 21), .lit (.int .u8 28), .lit (.int .u8 35), .lit (.int .u8 42), .lit (.int .u8 49), .lit (.int .u8 56), .lit (.int .u8 57), .lit (.int .u8 50), .lit (.int .u8 43), .lit (.int .u8 36), .lit (.int .u8 29), .lit (.int .u8 22), .lit (.int .u8 15), .lit (.int .u8 23), .lit (.int .u8 30), .lit (.int .u8 37), .lit (.int .u8 44), .lit (.int .u8 51), .lit (.int .u8 58), .lit (.int .u8 59), .lit (.int .u8 52), .lit (.int .u8 45), .lit (.int .u8 38), .lit (.int .u8 31), .lit (.int .u8 39), .lit (.int .u8 46), .lit (.int .u8 53), .lit (.int .u8 60), .lit (.int .u8 61), .lit (.int .u8 54), .lit (.int .u8 47), .lit (.int .u8 55), .lit (.int .u8 62), .lit (.int .u8 63)]

/-- 'aquatintlaw04.ZigBack': WHATEVER THE INPUT: true; the input reads as it did. -/
def zigBackSpec : ChangeSpec := { name := "zigBack", fn := fun _ => fun
  | [d] => { results := [.lit (.bool true)], args := [d] }
  | _ => none }
def zigBackRow : OpenClaim := { program := "ytmdamiodjiipaaadoor", sum := "29bab98bb7d0009d54135936adbefdb13bfc34d5e522cb1ce707bd515f995d30", func := "aquatint/aquatintlaw04.ZigBack", spec := "zigBack", named := ["aquatint/zig.zigzag"], apart := false, laid := [("aquatint/zig.zigzag", laid_aquatint_zig_zigzag)] }
def ZigBackSaid : Prop := zigBackRow.holds Tryd.pinned (OpenSpec.ofChange zigBackSpec)

/-- ITS FALSE NEIGHBOUR: 'it returns false'. Refute it at one input. -/
def zigBackWrong : ChangeSpec := { name := "zigBack", fn := fun _ => fun
  | [d] => { results := [.lit (.bool false)], args := [d] }
  | _ => none }
def ZigBackWrongFalsely : Prop := zigBackRow.holds Tryd.pinned (OpenSpec.ofChange zigBackWrong)

/-- 'aquatintlaw04.ZigLines': WHATEVER THE INPUT: true; the input reads as it did. -/
def zigLinesSpec : ChangeSpec := { name := "zigLines", fn := fun _ => fun
  | [d] => { results := [.lit (.bool true)], args := [d] }
  | _ => none }
def zigLinesRow : OpenClaim := { program := "ytmdamiodjiipaaadoor", sum := "29bab98bb7d0009d54135936adbefdb13bfc34d5e522cb1ce707bd515f995d30", func := "aquatint/aquatintlaw04.ZigLines", spec := "zigLines", named := ["aquatint/zig.zigzag"], apart := false, laid := [("aquatint/zig.zigzag", laid_aquatint_zig_zigzag)] }
def ZigLinesSaid : Prop := zigLinesRow.holds Tryd.pinned (OpenSpec.ofChange zigLinesSpec)

/-- ITS FALSE NEIGHBOUR: 'it returns false'. Refute it at one input. -/
def zigLinesWrong : ChangeSpec := { name := "zigLines", fn := fun _ => fun
  | [d] => { results := [.lit (.bool false)], args := [d] }
  | _ => none }
def ZigLinesWrongFalsely : Prop := zigLinesRow.holds Tryd.pinned (OpenSpec.ofChange zigLinesWrong)

/-- 'aquatintlaw04.ZigOrders': WHATEVER THE INPUT: true; the input reads as it did. -/
def zigOrdersSpec : ChangeSpec := { name := "zigOrders", fn := fun _ => fun
  | [d] => { results := [.lit (.bool true)], args := [d] }
  | _ => none }
def zigOrdersRow : OpenClaim := { program := "ytmdamiodjiipaaadoor", sum := "29bab98bb7d0009d54135936adbefdb13bfc34d5e522cb1ce707bd515f995d30", func := "aquatint/aquatintlaw04.ZigOrders", spec := "zigOrders", named := ["aquatint/zig.zigzag"], apart := false, laid := [("aquatint/zig.zigzag", laid_aquatint_zig_zigzag)] }
def ZigOrdersSaid : Prop := zigOrdersRow.holds Tryd.pinned (OpenSpec.ofChange zigOrdersSpec)

/-- ITS FALSE NEIGHBOUR: 'it returns false'. Refute it at one input. -/
def zigOrdersWrong : ChangeSpec := { name := "zigOrders", fn := fun _ => fun
  | [d] => { results := [.lit (.bool false)], args := [d] }
  | _ => none }
def ZigOrdersWrongFalsely : Prop := zigOrdersRow.holds Tryd.pinned (OpenSpec.ofChange zigOrdersWrong)

/-- 'aquatintlaw04.ZigBlocks': WHATEVER THE INPUT: true; the input reads as it did. -/
def zigBlocksSpec : ChangeSpec := { name := "zigBlocks", fn := fun _ => fun
  | [d] => { results := [.lit (.bool true)], args := [d] }
  | _ => none }
def zigBlocksRow : OpenClaim := { program := "ytmdamiodjiipaaadoor", sum := "29bab98bb7d0009d54135936adbefdb13bfc34d5e522cb1ce707bd515f995d30", func := "aquatint/aquatintlaw04.ZigBlocks", spec := "zigBlocks", named := ["aquatint/zig.zigzag"], apart := false, laid := [("aquatint/zig.zigzag", laid_aquatint_zig_zigzag)] }
def ZigBlocksSaid : Prop := zigBlocksRow.holds Tryd.pinned (OpenSpec.ofChange zigBlocksSpec)

/-- ITS FALSE NEIGHBOUR: 'it returns false'. Refute it at one input. -/
def zigBlocksWrong : ChangeSpec := { name := "zigBlocks", fn := fun _ => fun
  | [d] => { results := [.lit (.bool false)], args := [d] }
  | _ => none }
def ZigBlocksWrongFalsely : Prop := zigBlocksRow.holds Tryd.pinned (OpenSpec.ofChange zigBlocksWrong)

/-- 'aquatintlaw04.ZigTables': WHATEVER THE INPUT: true; the input reads as it did. -/
def zigTablesSpec : ChangeSpec := { name := "zigTables", fn := fun _ => fun
  | [d] => { results := [.lit (.bool true)], args := [d] }
  | _ => none }
def zigTablesRow : OpenClaim := { program := "ytmdamiodjiipaaadoor", sum := "29bab98bb7d0009d54135936adbefdb13bfc34d5e522cb1ce707bd515f995d30", func := "aquatint/aquatintlaw04.ZigTables", spec := "zigTables", named := ["aquatint/zig.zigzag"], apart := false, laid := [("aquatint/zig.zigzag", laid_aquatint_zig_zigzag)] }
def ZigTablesSaid : Prop := zigTablesRow.holds Tryd.pinned (OpenSpec.ofChange zigTablesSpec)

/-- ITS FALSE NEIGHBOUR: 'it returns false'. Refute it at one input. -/
def zigTablesWrong : ChangeSpec := { name := "zigTables", fn := fun _ => fun
  | [d] => { results := [.lit (.bool false)], args := [d] }
  | _ => none }
def ZigTablesWrongFalsely : Prop := zigTablesRow.holds Tryd.pinned (OpenSpec.ofChange zigTablesWrong)

/-- 'aquatintlaw04.ZigLast': WHATEVER THE INPUT: true; the input reads as it did. -/
def zigLastSpec : ChangeSpec := { name := "zigLast", fn := fun _ => fun
  | [d] => { results := [.lit (.bool true)], args := [d] }
  | _ => none }
def zigLastRow : OpenClaim := { program := "ytmdamiodjiipaaadoor", sum := "29bab98bb7d0009d54135936adbefdb13bfc34d5e522cb1ce707bd515f995d30", func := "aquatint/aquatintlaw04.ZigLast", spec := "zigLast", named := ["aquatint/zig.zigzag"], apart := false, laid := [("aquatint/zig.zigzag", laid_aquatint_zig_zigzag)] }
def ZigLastSaid : Prop := zigLastRow.holds Tryd.pinned (OpenSpec.ofChange zigLastSpec)

/-- ITS FALSE NEIGHBOUR: 'it returns false'. Refute it at one input. -/
def zigLastWrong : ChangeSpec := { name := "zigLast", fn := fun _ => fun
  | [d] => { results := [.lit (.bool false)], args := [d] }
  | _ => none }
def ZigLastWrongFalsely : Prop := zigLastRow.holds Tryd.pinned (OpenSpec.ofChange zigLastWrong)

/- THE SECOND FORM. 'bulk': how many values and letters a reading holds, each counted each time it is reached (what is shared counts as often as it is met; a slice's spare places count too). A statement '..UptoSaid' is the law's where the arguments, and the package variables that the reading takes, are together of bulk at most 1048576: NARROWER than '..Said'. Prove '..Said' where nothing that the law and all that it calls make is longer than what came in: it says more and counts as full. Else prove '..UptoSaid'. A law counts once. -/
mutual
def uptoBulk {H : Type} : DataW H → Nat
  | .lit (.string bytes) => bytes.length + 1
  | .lit _ => 1
  | .nil => 1
  | .ptr d => uptoBulk d + 1
  | .slice elems spare => uptoBulkAll elems + uptoBulkAll spare + 1
  | .agg parts => uptoBulkAll parts + 1
  | .iface _ d => uptoBulk d + 1
  | .map entries => uptoBulkEntries entries + 1
  | .held _ => 1
def uptoBulkAll {H : Type} : List (DataW H) → Nat
  | [] => 0
  | d :: r => uptoBulk d + uptoBulkAll r
def uptoBulkEntries {H : Type} : List (Lit × DataW H) → Nat
  | [] => 0
  | x :: r => uptoBulkEntry x + uptoBulkEntries r
def uptoBulkEntry {H : Type} : Lit × DataW H → Nat
  | (.string bytes, d) => bytes.length + uptoBulk d + 1
  | (_, d) => uptoBulk d + 1
 end
def uptoSmall : (H : Type) → List (DataW H) → Bool := fun _ ds => decide (uptoBulkAll ds ≤ 1048576)
def OpenSpec.upto (s : _root_.Go.ChangeSpec) : _root_.Go.OpenSpec := { _root_.Go.OpenSpec.ofChange s with cond := some uptoSmall }

/-- 'aquatintlaw04.ZigBack', WHERE WHAT IT READS IS OF BULK AT MOST 1048576: true; the input reads as it did. -/
def zigBackUptoRow : OpenClaim := { program := "ytmdamiodjiipaaadoor", sum := "29bab98bb7d0009d54135936adbefdb13bfc34d5e522cb1ce707bd515f995d30", func := "aquatint/aquatintlaw04.ZigBack", spec := "zigBack", named := ["aquatint/zig.zigzag"], apart := false, laid := [("aquatint/zig.zigzag", laid_aquatint_zig_zigzag)], narrowed := true }
def ZigBackUptoSaid : Prop := zigBackUptoRow.holds Tryd.pinned (OpenSpec.upto zigBackSpec)

/-- 'aquatintlaw04.ZigLines', WHERE WHAT IT READS IS OF BULK AT MOST 1048576: true; the input reads as it did. -/
def zigLinesUptoRow : OpenClaim := { program := "ytmdamiodjiipaaadoor", sum := "29bab98bb7d0009d54135936adbefdb13bfc34d5e522cb1ce707bd515f995d30", func := "aquatint/aquatintlaw04.ZigLines", spec := "zigLines", named := ["aquatint/zig.zigzag"], apart := false, laid := [("aquatint/zig.zigzag", laid_aquatint_zig_zigzag)], narrowed := true }
def ZigLinesUptoSaid : Prop := zigLinesUptoRow.holds Tryd.pinned (OpenSpec.upto zigLinesSpec)

/-- 'aquatintlaw04.ZigOrders', WHERE WHAT IT READS IS OF BULK AT MOST 1048576: true; the input reads as it did. -/
def zigOrdersUptoRow : OpenClaim := { program := "ytmdamiodjiipaaadoor", sum := "29bab98bb7d0009d54135936adbefdb13bfc34d5e522cb1ce707bd515f995d30", func := "aquatint/aquatintlaw04.ZigOrders", spec := "zigOrders", named := ["aquatint/zig.zigzag"], apart := false, laid := [("aquatint/zig.zigzag", laid_aquatint_zig_zigzag)], narrowed := true }
def ZigOrdersUptoSaid : Prop := zigOrdersUptoRow.holds Tryd.pinned (OpenSpec.upto zigOrdersSpec)

/-- 'aquatintlaw04.ZigBlocks', WHERE WHAT IT READS IS OF BULK AT MOST 1048576: true; the input reads as it did. -/
def zigBlocksUptoRow : OpenClaim := { program := "ytmdamiodjiipaaadoor", sum := "29bab98bb7d0009d54135936adbefdb13bfc34d5e522cb1ce707bd515f995d30", func := "aquatint/aquatintlaw04.ZigBlocks", spec := "zigBlocks", named := ["aquatint/zig.zigzag"], apart := false, laid := [("aquatint/zig.zigzag", laid_aquatint_zig_zigzag)], narrowed := true }
def ZigBlocksUptoSaid : Prop := zigBlocksUptoRow.holds Tryd.pinned (OpenSpec.upto zigBlocksSpec)

/-- 'aquatintlaw04.ZigTables', WHERE WHAT IT READS IS OF BULK AT MOST 1048576: true; the input reads as it did. -/
def zigTablesUptoRow : OpenClaim := { program := "ytmdamiodjiipaaadoor", sum := "29bab98bb7d0009d54135936adbefdb13bfc34d5e522cb1ce707bd515f995d30", func := "aquatint/aquatintlaw04.ZigTables", spec := "zigTables", named := ["aquatint/zig.zigzag"], apart := false, laid := [("aquatint/zig.zigzag", laid_aquatint_zig_zigzag)], narrowed := true }
def ZigTablesUptoSaid : Prop := zigTablesUptoRow.holds Tryd.pinned (OpenSpec.upto zigTablesSpec)

/-- 'aquatintlaw04.ZigLast', WHERE WHAT IT READS IS OF BULK AT MOST 1048576: true; the input reads as it did. -/
def zigLastUptoRow : OpenClaim := { program := "ytmdamiodjiipaaadoor", sum := "29bab98bb7d0009d54135936adbefdb13bfc34d5e522cb1ce707bd515f995d30", func := "aquatint/aquatintlaw04.ZigLast", spec := "zigLast", named := ["aquatint/zig.zigzag"], apart := false, laid := [("aquatint/zig.zigzag", laid_aquatint_zig_zigzag)], narrowed := true }
def ZigLastUptoSaid : Prop := zigLastUptoRow.holds Tryd.pinned (OpenSpec.upto zigLastSpec)

end Rows
end Go.Proofs.YtmdamiodjiipaaaDoor
