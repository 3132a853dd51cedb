/- errors.As at a target that is a pointer to a fault: the first fault is found, if there is one. -/
import Derived.Test.YteacjahncngoiaaDoorFaAsFacts
namespace Go.Proofs.YteacjahncngoiaaDoor
open Go.RowKit Go.Extern.Stop Go.Stop Go.Extern FA

theorem setF (ta b e : Addr) (old : Value) (W : World) (hb : W.cell? b = some (.pointer (some e))) (ht : W.cell? ta = some old) (hf : W.frozen? ta = false) :
    (ReflectliteValue.set #[.agg #[.pointer (some ⟨4, 47, none⟩), .pointer (some ta), .int .u64 406], .agg #[.pointer (some ⟨4, 47, none⟩), .pointer (some b), .int .u64 150]]).run Tryd.prog W
      = .ok (.tuple #[]) (W.setCell ta (.pointer (some e))) := by
  show Sem.run Tryd.prog (bind (ReflectliteValue.parts (.agg #[.pointer (some ⟨4, 47, none⟩), .pointer (some ta), .int .u64 406])) (fun _ => bind (ReflectliteValue.parts (.agg #[.pointer (some ⟨4, 47, none⟩), .pointer (some b), .int .u64 150])) _)) W = _
  simp only [Sem.run_bind, partsFa, partsF, Result.andThen]
  simp [ReflectliteValue.flagAddr, loadVar, isAgg, underlying, Tryd.underlying47, hb, Result.andThen, directF, storeVar, Value.cells, storeCells, Addr.add]
  rw [run_store Tryd.prog W ta _ _ (by rfl)]
  simp [ht, hf]

theorem x_typeOf (args : Array Value) (w : World) : (callFunc 33 args).run Tryd.prog w = (((ReflectliteType.typeOf) args).run Tryd.prog w).andThen fun v w' => .ok (.value v) w' :=
  run_callFunc_extern Tryd.func33 (by kernel_rfl) (by kernel_rfl) (by kernel_rfl) (by kernel_rfl) args w
theorem x_valueOf (args : Array Value) (w : World) : (callFunc 40 args).run Tryd.prog w = ((((fun args => ReflectliteValue.unpack (args.getD 0 (.tuple #[])))) args).run Tryd.prog w).andThen fun v w' => .ok (.value v) w' :=
  run_callFunc_extern (e := fun args => ReflectliteValue.unpack (args.getD 0 (.tuple #[]))) Tryd.func40 (by kernel_rfl) (by kernel_rfl) (by kernel_rfl) (by kernel_rfl) args w
theorem x_type (args : Array Value) (w : World) : (callFunc 41 args).run Tryd.prog w = ((((ReflectliteValue.methodAny (ReflectliteValue.valueError "reflectlite.Value.Type" 0) (fun t _ _ _ => ReflectliteType.toType t))) args).run Tryd.prog w).andThen fun v w' => .ok (.value v) w' :=
  run_callFunc_extern Tryd.func41 (by kernel_rfl) (by kernel_rfl) (by kernel_rfl) (by kernel_rfl) args w
theorem x_isNil (args : Array Value) (w : World) : (callFunc 42 args).run Tryd.prog w = ((((ReflectliteValue.method (ReflectliteValue.valueError "reflectlite.Value.IsNil" 0) ReflectliteValue.isNil)) args).run Tryd.prog w).andThen fun v w' => .ok (.value v) w' :=
  run_callFunc_extern Tryd.func42 (by kernel_rfl) (by kernel_rfl) (by kernel_rfl) (by kernel_rfl) args w
theorem x_kind (args : Array Value) (w : World) : (callFunc 78 args).run Tryd.prog w = ((((ReflectliteType.abiMethod fun t => do pure (.int .u8 (← Rtype.kind t)))) args).run Tryd.prog w).andThen fun v w' => .ok (.value v) w' :=
  run_callFunc_extern Tryd.func78 (by kernel_rfl) (by kernel_rfl) (by kernel_rfl) (by kernel_rfl) args w
theorem x_elemT (args : Array Value) (w : World) : (callFunc 92 args).run Tryd.prog w = ((((ReflectliteType.method ReflectliteType.elem)) args).run Tryd.prog w).andThen fun v w' => .ok (.value v) w' :=
  run_callFunc_extern Tryd.func92 (by kernel_rfl) (by kernel_rfl) (by kernel_rfl) (by kernel_rfl) args w
theorem x_impl (args : Array Value) (w : World) : (callFunc 93 args).run Tryd.prog w = ((((ReflectliteType.relation "Implements" ReflectliteType.implements_)) args).run Tryd.prog w).andThen fun v w' => .ok (.value v) w' :=
  run_callFunc_extern Tryd.func93 (by kernel_rfl) (by kernel_rfl) (by kernel_rfl) (by kernel_rfl) args w
theorem x_assign (args : Array Value) (w : World) : (callFunc 90 args).run Tryd.prog w = ((((ReflectliteType.relation "AssignableTo" ReflectliteType.assignableTo)) args).run Tryd.prog w).andThen fun v w' => .ok (.value v) w' :=
  run_callFunc_extern Tryd.func90 (by kernel_rfl) (by kernel_rfl) (by kernel_rfl) (by kernel_rfl) args w
theorem x_elemV (args : Array Value) (w : World) : (callFunc 46 args).run Tryd.prog w = ((((ReflectliteValue.method (ReflectliteValue.valueError "reflectlite.Value.Elem" 0) ReflectliteValue.elem)) args).run Tryd.prog w).andThen fun v w' => .ok (.value v) w' :=
  run_callFunc_extern Tryd.func46 (by kernel_rfl) (by kernel_rfl) (by kernel_rfl) (by kernel_rfl) args w
theorem x_set (args : Array Value) (w : World) : (callFunc 47 args).run Tryd.prog w = (((ReflectliteValue.set) args).run Tryd.prog w).andThen fun v w' => .ok (.value v) w' :=
  run_callFunc_extern Tryd.func47 (by kernel_rfl) (by kernel_rfl) (by kernel_rfl) (by kernel_rfl) args w

/-- The Value of the target, in reflectlite's own copy at block pb. -/
def tgt (pb : Nat) : Array Value := #[.pointer (some ⟨4, 49, none⟩), .pointer (some ⟨pb, 0, none⟩), .int .u64 150]

set_option maxHeartbeats 4000000 in
theorem as_fault (b tb pb : Nat) (old : Value) (w : World) (hp : w.cell? ⟨pb, 0, none⟩ = some (.pointer (some ⟨tb, 0, none⟩))) (ht : w.cell? ⟨tb, 0, none⟩ = some old) (hf : w.frozen? ⟨tb, 0, none⟩ = false) :
    Calls Tryd.prog 43 #[.iface 47 (.pointer (some ⟨b, 0, none⟩)), .iface 49 (.pointer (some ⟨tb, 0, none⟩)), .agg (tgt pb), .iface 97 (.agg #[.pointer (some ⟨4, 47, none⟩)])] w
      fun e w' => e = .returned (.bool true) ∧ w' = (((w.setCell ⟨tb, 0, none⟩ (.pointer (some ⟨b, 0, none⟩))).alloc (.cells (tgt pb) 83)).alloc (.cells #[.pointer (some ⟨b, 0, none⟩)] 47)) := by
  have hpl := lt_cell hp
  have htl := lt_cell ht
  have e1 := x_typeOf; have e2 := x_assign; have e3 := x_elemV; have e4 := x_valueOf; have e5 := x_set
  have f1 := typeOfF; have f2 := mAssign; have f3 := assignF; have f4 := valueOfF
  have f5 := elemVPP ⟨pb, 0, none⟩ ⟨tb, 0, none⟩ (w.alloc (.cells (tgt pb) 83)) (by rw [World.cell?_alloc_lt _ _ _ hpl]; exact hp)
  have f6 := setF ⟨tb, 0, none⟩ ⟨w.heap.size + 1, 0, none⟩ ⟨b, 0, none⟩ old ((w.alloc (.cells (tgt pb) 83)).alloc (.cells #[.pointer (some ⟨b, 0, none⟩)] 47))
    (by rw [World.cell?_alloc_at _ _ _ _ (by simp)]; rfl)
    (by rw [World.cell?_alloc_lt _ _ _ (by simp at htl ⊢; omega), World.cell?_alloc_lt _ _ _ htl]; exact ht)
    (by rw [World.frozen?_alloc_old _ _ _ (by simp at htl ⊢; omega), World.frozen?_alloc_old _ _ _ (Nat.ne_of_lt htl)]; exact hf)
  unfold tgt at *
  clear hp ht hf
  go_enter Tryd.func43, Tryd.ntmps43
  go_wp2
  refine wp_loop_rounds 1 ?_
  rw [rounds_succ]
  go_wp2
  go_ret
  exact ⟨rfl, rfl⟩

set_option maxHeartbeats 4000000 in
theorem as_other (b tb pb : Nat) (w : World) :
    Calls Tryd.prog 43 #[.iface 93 (.pointer (some ⟨b, 0, none⟩)), .iface 49 (.pointer (some ⟨tb, 0, none⟩)), .agg (tgt pb), .iface 97 (.agg #[.pointer (some ⟨4, 47, none⟩)])] w
      fun e w' => e = .returned (.bool false) ∧ w' = w.alloc (.cells (tgt pb) 83) := by
  have e1 := x_typeOf; have e2 := x_assign
  have f1 := typeOfO; have f2 := mAssign; have f3 := assignO; have f4 := asO; have f5 := unO; have f6 := usO
  unfold tgt at *
  go_enter Tryd.func43, Tryd.ntmps43
  go_wp2
  refine wp_loop_rounds 1 ?_
  rw [rounds_succ]
  go_wp2
  go_ret
  exact ⟨rfl, rfl⟩
end Go.Proofs.YteacjahncngoiaaDoor
