/- Type assertions over segments. -/
import Derived.Test.YtfohgocdabgbgaaDoorSWr
namespace Go.Proofs.YtfohgocdabgbgaaDoor
open Go.RowKit

theorem zero_of {t : TypeId} {c : Array Value} (h : (Tryd.prog.info? t).map (·.zero) = some (some (.agg c))) (w : World) : (zeroValue t).run Tryd.prog w = .ok (.agg c) w := by
  cases hi : Tryd.prog.info? t with
  | none => rw [hi] at h; cases h
  | some i =>
    rw [hi] at h
    have hz : i.zero = some (.agg c) := Option.some.inj h
    simp [zeroValue, typeInfo, hi, hz]
def zero58 : Array Value := #[.int .i64 0]
def zero98 : Array Value := #[.int .i64 0, .string ⟨#[]⟩]
def zero62 : Array Value := #[.slice none 0 0]
def zero44 : Array Value := #[.int .i64 0, .int .i64 0, .int .i64 0, .slice none 0 0]
def zero49 : Array Value := #[.slice none 0 0, .int .i64 0, .int .i64 0, .int .i64 0, .int .i64 0]
/-- It holds. -/
theorem assert_yes {T : TypeId} {d : TypeDesc} (hu : Tryd.prog.underlying T = some d) (hd : (match d with | .interface _ => false | _ => true) = true) (v : Value) (w : World) : (Instr.typeAssert (.iface T v) 23 T true).run Tryd.prog w = .ok (.tuple #[v, .bool true]) w := by
  unfold Instr.typeAssert
  simp only [Sem.run_bind, run_underlying hu, Result.andThen_ok]
  cases d <;> simp_all
/-- It does not. -/
theorem assert_no {T t : TypeId} {d : TypeDesc} {z : Array Value} (hu : Tryd.prog.underlying T = some d) (hd : (match d with | .interface _ => false | _ => true) = true) (hz : (Tryd.prog.info? T).map (·.zero) = some (some (.agg z))) (ht : t ≠ T) (v : Value) (w : World) :
    (Instr.typeAssert (.iface t v) 23 T true).run Tryd.prog w = .ok (.tuple #[.agg z, .bool false]) w := by
  have h0 := zero_of hz w
  unfold Instr.typeAssert
  simp only [Sem.run_bind, run_underlying hu, Result.andThen_ok]
  cases d <;> simp_all
theorem assert_nil {T : TypeId} {d : TypeDesc} {z : Array Value} (hu : Tryd.prog.underlying T = some d) (hd : (match d with | .interface _ => false | _ => true) = true) (hz : (Tryd.prog.info? T).map (·.zero) = some (some (.agg z))) (w : World) :
    (Instr.typeAssert .nilIface 23 T true).run Tryd.prog w = .ok (.tuple #[.agg z, .bool false]) w := by
  have h0 := zero_of hz w
  unfold Instr.typeAssert
  simp only [Sem.run_bind, run_underlying hu, Result.andThen_ok]
  cases d <;> simp_all
theorem no58 {t : TypeId} (ht : t ≠ 58) (v : Value) (w : World) : (Instr.typeAssert (.iface t v) 23 58 true).run Tryd.prog w = .ok (.tuple #[.agg zero58, .bool false]) w := assert_no Tryd.underlying58 rfl (by kernel_rfl) ht v w
theorem no98 {t : TypeId} (ht : t ≠ 98) (v : Value) (w : World) : (Instr.typeAssert (.iface t v) 23 98 true).run Tryd.prog w = .ok (.tuple #[.agg zero98, .bool false]) w := assert_no Tryd.underlying98 rfl (by kernel_rfl) ht v w
theorem no62 {t : TypeId} (ht : t ≠ 62) (v : Value) (w : World) : (Instr.typeAssert (.iface t v) 23 62 true).run Tryd.prog w = .ok (.tuple #[.agg zero62, .bool false]) w := assert_no Tryd.underlying62 rfl (by kernel_rfl) ht v w
theorem no70 {t : TypeId} (ht : t ≠ 70) (v : Value) (w : World) : (Instr.typeAssert (.iface t v) 23 70 true).run Tryd.prog w = .ok (.tuple #[.agg zero62, .bool false]) w := assert_no Tryd.underlying70 rfl (by kernel_rfl) ht v w
theorem no44 {t : TypeId} (ht : t ≠ 44) (v : Value) (w : World) : (Instr.typeAssert (.iface t v) 23 44 true).run Tryd.prog w = .ok (.tuple #[.agg zero44, .bool false]) w := assert_no Tryd.underlying44 rfl (by kernel_rfl) ht v w
theorem no49 {t : TypeId} (ht : t ≠ 49) (v : Value) (w : World) : (Instr.typeAssert (.iface t v) 23 49 true).run Tryd.prog w = .ok (.tuple #[.agg zero49, .bool false]) w := assert_no Tryd.underlying49 rfl (by kernel_rfl) ht v w
theorem no76 {t : TypeId} (ht : t ≠ 76) (v : Value) (w : World) : (Instr.typeAssert (.iface t v) 23 76 true).run Tryd.prog w = .ok (.tuple #[.agg zero58, .bool false]) w := assert_no Tryd.underlying76 rfl (by kernel_rfl) ht v w
theorem yes58 (v : Value) (w : World) : (Instr.typeAssert (.iface 58 v) 23 58 true).run Tryd.prog w = .ok (.tuple #[v, .bool true]) w := assert_yes Tryd.underlying58 rfl v w
theorem yes98 (v : Value) (w : World) : (Instr.typeAssert (.iface 98 v) 23 98 true).run Tryd.prog w = .ok (.tuple #[v, .bool true]) w := assert_yes Tryd.underlying98 rfl v w
theorem yes62 (v : Value) (w : World) : (Instr.typeAssert (.iface 62 v) 23 62 true).run Tryd.prog w = .ok (.tuple #[v, .bool true]) w := assert_yes Tryd.underlying62 rfl v w
theorem yes70 (v : Value) (w : World) : (Instr.typeAssert (.iface 70 v) 23 70 true).run Tryd.prog w = .ok (.tuple #[v, .bool true]) w := assert_yes Tryd.underlying70 rfl v w
theorem yes44 (v : Value) (w : World) : (Instr.typeAssert (.iface 44 v) 23 44 true).run Tryd.prog w = .ok (.tuple #[v, .bool true]) w := assert_yes Tryd.underlying44 rfl v w
theorem yes49 (v : Value) (w : World) : (Instr.typeAssert (.iface 49 v) 23 49 true).run Tryd.prog w = .ok (.tuple #[v, .bool true]) w := assert_yes Tryd.underlying49 rfl v w
theorem yes76 (v : Value) (w : World) : (Instr.typeAssert (.iface 76 v) 23 76 true).run Tryd.prog w = .ok (.tuple #[v, .bool true]) w := assert_yes Tryd.underlying76 rfl v w
theorem nil58 (w : World) : (Instr.typeAssert .nilIface 23 58 true).run Tryd.prog w = .ok (.tuple #[.agg zero58, .bool false]) w := assert_nil Tryd.underlying58 rfl (by kernel_rfl) w
theorem nil98 (w : World) : (Instr.typeAssert .nilIface 23 98 true).run Tryd.prog w = .ok (.tuple #[.agg zero98, .bool false]) w := assert_nil Tryd.underlying98 rfl (by kernel_rfl) w
theorem nil62 (w : World) : (Instr.typeAssert .nilIface 23 62 true).run Tryd.prog w = .ok (.tuple #[.agg zero62, .bool false]) w := assert_nil Tryd.underlying62 rfl (by kernel_rfl) w
theorem nil70 (w : World) : (Instr.typeAssert .nilIface 23 70 true).run Tryd.prog w = .ok (.tuple #[.agg zero62, .bool false]) w := assert_nil Tryd.underlying70 rfl (by kernel_rfl) w
theorem nil44 (w : World) : (Instr.typeAssert .nilIface 23 44 true).run Tryd.prog w = .ok (.tuple #[.agg zero44, .bool false]) w := assert_nil Tryd.underlying44 rfl (by kernel_rfl) w
theorem nil49 (w : World) : (Instr.typeAssert .nilIface 23 49 true).run Tryd.prog w = .ok (.tuple #[.agg zero49, .bool false]) w := assert_nil Tryd.underlying49 rfl (by kernel_rfl) w
theorem nil76 (w : World) : (Instr.typeAssert .nilIface 23 76 true).run Tryd.prog w = .ok (.tuple #[.agg zero58, .bool false]) w := assert_nil Tryd.underlying76 rfl (by kernel_rfl) w
end Go.Proofs.YtfohgocdabgbgaaDoor
