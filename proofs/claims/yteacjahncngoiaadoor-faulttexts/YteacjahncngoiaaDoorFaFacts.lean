/- Which kinds of errors have which methods: closed facts on the program's types. -/
import Derived.Test.YteacjahncngoiaaDoorProg
import Derived.WalkKit
import Derived.LaidEql
import Derived.Stop.Asserts
import Derived.RowKitTokens
import Derived.KernelRfl
namespace Go.Proofs.YteacjahncngoiaaDoor
open Go.RowKit Go.Extern.Stop Go.Stop Go.Extern

theorem taFF (p : Value) (xT : TypeId) (w : World) : (Instr.typeAssert (.iface 47 p) xT 47 true).run Tryd.prog w = .ok (.tuple #[p, .bool true]) w := by kernel_rfl
theorem taFJ (p : Value) (xT : TypeId) (w : World) : (Instr.typeAssert (.iface 90 p) xT 47 true).run Tryd.prog w = .ok (.tuple #[.pointer none, .bool false]) w := by kernel_rfl
theorem taFO (p : Value) (xT : TypeId) (w : World) : (Instr.typeAssert (.iface 93 p) xT 47 true).run Tryd.prog w = .ok (.tuple #[.pointer none, .bool false]) w := by kernel_rfl
theorem taJJ (p : Value) (xT : TypeId) (w : World) : (Instr.typeAssert (.iface 90 p) xT 90 true).run Tryd.prog w = .ok (.tuple #[p, .bool true]) w := by kernel_rfl
theorem taJO (p : Value) (xT : TypeId) (w : World) : (Instr.typeAssert (.iface 93 p) xT 90 true).run Tryd.prog w = .ok (.tuple #[.pointer none, .bool false]) w := by kernel_rfl

theorem isF (v : Value) (xT : TypeId) (w : World) : (Instr.typeAssert (.iface 47 v) xT 99 true).run Tryd.prog w = .ok (.tuple #[.iface 47 v, .bool true]) w := run_typeAssert_hasB Tryd.underlying99 (by kernel_rfl) v xT w
theorem isJ (v : Value) (xT : TypeId) (w : World) : (Instr.typeAssert (.iface 90 v) xT 99 true).run Tryd.prog w = .ok (.tuple #[.nilIface, .bool false]) w := run_typeAssert_lacksB Tryd.underlying99 (by kernel_rfl) (by kernel_rfl) v xT w
theorem isO (v : Value) (xT : TypeId) (w : World) : (Instr.typeAssert (.iface 93 v) xT 99 true).run Tryd.prog w = .ok (.tuple #[.nilIface, .bool false]) w := run_typeAssert_lacksB Tryd.underlying99 (by kernel_rfl) (by kernel_rfl) v xT w
theorem asJ (v : Value) (xT : TypeId) (w : World) : (Instr.typeAssert (.iface 90 v) xT 111 true).run Tryd.prog w = .ok (.tuple #[.nilIface, .bool false]) w := run_typeAssert_lacksB Tryd.underlying111 (by kernel_rfl) (by kernel_rfl) v xT w
theorem asO (v : Value) (xT : TypeId) (w : World) : (Instr.typeAssert (.iface 93 v) xT 111 true).run Tryd.prog w = .ok (.tuple #[.nilIface, .bool false]) w := run_typeAssert_lacksB Tryd.underlying111 (by kernel_rfl) (by kernel_rfl) v xT w
theorem unF (v : Value) (xT : TypeId) (w : World) : (Instr.typeAssert (.iface 47 v) xT 101 true).run Tryd.prog w = .ok (.tuple #[.iface 47 v, .bool true]) w := run_typeAssert_hasB Tryd.underlying101 (by kernel_rfl) v xT w
theorem unJ (v : Value) (xT : TypeId) (w : World) : (Instr.typeAssert (.iface 90 v) xT 101 true).run Tryd.prog w = .ok (.tuple #[.nilIface, .bool false]) w := run_typeAssert_lacksB Tryd.underlying101 (by kernel_rfl) (by kernel_rfl) v xT w
theorem unO (v : Value) (xT : TypeId) (w : World) : (Instr.typeAssert (.iface 93 v) xT 101 true).run Tryd.prog w = .ok (.tuple #[.nilIface, .bool false]) w := run_typeAssert_lacksB Tryd.underlying101 (by kernel_rfl) (by kernel_rfl) v xT w
theorem usJ (v : Value) (xT : TypeId) (w : World) : (Instr.typeAssert (.iface 90 v) xT 102 true).run Tryd.prog w = .ok (.tuple #[.iface 90 v, .bool true]) w := run_typeAssert_hasB Tryd.underlying102 (by kernel_rfl) v xT w
theorem usO (v : Value) (xT : TypeId) (w : World) : (Instr.typeAssert (.iface 93 v) xT 102 true).run Tryd.prog w = .ok (.tuple #[.nilIface, .bool false]) w := run_typeAssert_lacksB Tryd.underlying102 (by kernel_rfl) (by kernel_rfl) v xT w

theorem mIsF (v : Value) (w : World) : (Go.method 261 47 v "Is").run Tryd.prog w = .ok (23, v) w := by kernel_rfl
theorem mUnF (v : Value) (w : World) : (Go.method 261 47 v "Unwrap").run Tryd.prog w = .ok (24, v) w := by kernel_rfl
theorem mUnJ (v : Value) (w : World) : (Go.method 261 90 v "Unwrap").run Tryd.prog w = .ok (86, v) w := by kernel_rfl
theorem mErO (v : Value) (w : World) : (Go.method 261 93 v "Error").run Tryd.prog w = .ok (88, v) w := by kernel_rfl

theorem ptrComp : (Tryd.prog.info? 47).map (·.comparable) = some true := by kernel_rfl
theorem faultSize : (Tryd.prog.info? 51).map (·.size) = some 3 := by kernel_rfl
end Go.Proofs.YteacjahncngoiaaDoor
