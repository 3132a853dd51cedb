/- Faults, errors of another kind: how they are made. -/
import Derived.Test.YteacjahncngoiaaDoorFaRep
import Derived.Test.YteacjahncngoiaaDoorFaFacts
namespace Go.Proofs.YteacjahncngoiaaDoor
open Go.RowKit FA

/-- The answer is the error x; what was there before the call is as it was. -/
def RetO (w : World) (x : Option E) (e : Ending) (w' : World) : Prop := ∃ v, e = .returned v ∧ RepO w' w'.heap.size x v ∧ Below w.heap.size w w'

theorem new_w (c : Int) (s : ByteArray) (w : World) :
    Calls Tryd.prog 30 #[.int .u8 c, .string s] w fun e w' => e = .returned (.iface 47 (.pointer (some ⟨w.heap.size, 0, none⟩))) ∧ w' = w.alloc (.cells #[.int .u8 c, .string s, .nilIface] 51) := by
  go_enter Tryd.func30, Tryd.ntmps30
  go_wp2
  go_ret
  exact ⟨rfl, rfl⟩

theorem new_rep (c : Nat) (s : ByteArray) (w : World) : Calls Tryd.prog 30 #[.int .u8 c, .string s] w (RetO w (some (.leaf c s))) := by
  refine (new_w c s w).mono ?_
  rintro e w' ⟨rfl, rfl⟩
  refine ⟨_, rfl, ?_, (Below.refl _ _).alloc (Nat.le_refl _) _⟩
  simp only [RepO, RepE]
  exact ⟨w.heap.size, rfl, by simp, heap_alloc_new w _⟩

theorem of_w (c : Int) (w : World) :
    Calls Tryd.prog 16 #[.int .u8 c] w fun e w' => e = .returned (.iface 47 (.pointer (some ⟨w.heap.size, 0, none⟩))) ∧ w' = w.alloc (.cells #[.int .u8 c, .string ⟨#[]⟩, .nilIface] 51) := by
  go_enter Tryd.func16, Tryd.ntmps16
  go_wp2_with fail
  refine (new_w c _ _).mono ?_
  rintro e w' ⟨rfl, rfl⟩
  go_wp2
  go_ret
  exact ⟨rfl, rfl⟩

theorem errnew_w (s : ByteArray) (w : World) :
    Calls Tryd.prog 29 #[.string s] w fun e w' => e = .returned (.iface 93 (.pointer (some ⟨w.heap.size, 0, none⟩))) ∧ w' = w.alloc (.cells #[.string s] 95) := by
  go_enter Tryd.func29, Tryd.ntmps29
  go_wp2
  go_ret
  exact ⟨rfl, rfl⟩

theorem errnew_rep (s : ByteArray) (w : World) : Calls Tryd.prog 29 #[.string s] w (RetO w (some (.other s))) := by
  refine (errnew_w s w).mono ?_
  rintro e w' ⟨rfl, rfl⟩
  refine ⟨_, rfl, ?_, (Below.refl _ _).alloc (Nat.le_refl _) _⟩
  simp only [RepO, RepE]
  exact ⟨w.heap.size, rfl, by simp, heap_alloc_new w _⟩

theorem errtext_w (b : Nat) (s : ByteArray) (w : World) (h : w.cell? ⟨b, 0, none⟩ = some (.string s)) :
    Calls Tryd.prog 88 #[.pointer (some ⟨b, 0, none⟩)] w fun e w' => e = .returned (.string s) ∧ w = w' := by
  go_enter Tryd.func88, Tryd.ntmps88
  go_wp2
  go_ret
  exact ⟨rfl, rfl⟩

theorem cell_heap {w : World} {b i : Nat} {cs : Array Value} {t : TypeId} (h : w.heap[b]? = some (.cells cs t (0, 0))) : w.cell? ⟨b, i, none⟩ = cs[i]? := by simp [World.cell?, h]
theorem frozen_heap {w : World} {b i : Nat} {cs : Array Value} {t : TypeId} (h : w.heap[b]? = some (.cells cs t (0, 0))) : w.frozen? ⟨b, i, none⟩ = false := by simp [World.frozen?, h]
theorem lt_heap {w : World} {b : Nat} {o : Obj} (h : w.heap[b]? = some o) : b < w.heap.size := by
  rcases Nat.lt_or_ge b w.heap.size with h' | h'
  · exact h'
  · rw [Array.getElem?_eq_none h'] at h; cases h
theorem lt_cell {w : World} {p : Addr} {u : Value} (h : w.cell? p = some u) : p.block < w.heap.size := by
  rcases Nat.lt_or_ge p.block w.heap.size with h' | h'
  · exact h'
  · simp [World.cell?, Array.getElem?_eq_none h'] at h

theorem unwrap_w (b : Nat) (u : Value) (w : World) (h : w.cell? ⟨b, 2, none⟩ = some u) :
    Calls Tryd.prog 24 #[.pointer (some ⟨b, 0, none⟩)] w fun e w' => e = .returned u ∧ w = w' := by
  go_enter Tryd.func24, Tryd.ntmps24
  go_wp2
  go_ret
  exact ⟨rfl, rfl⟩
theorem unwrap_nil (w : World) :
    Calls Tryd.prog 24 #[.pointer none] w fun e w' => e = .returned .nilIface ∧ w = w' := by
  go_enter Tryd.func24, Tryd.ntmps24
  go_wp2
  go_ret
  exact ⟨rfl, rfl⟩

theorem asfault_w (p : Value) (w : World) :
    Calls Tryd.prog 35 #[.iface 47 p] w fun e w' => e = .returned p ∧ w = w' := by
  have h := taFF p
  go_enter Tryd.func35, Tryd.ntmps35
  go_wp2
  go_ret
  exact ⟨rfl, rfl⟩
theorem asfault_j (p : Value) (w : World) :
    Calls Tryd.prog 35 #[.iface 90 p] w fun e w' => e = .returned (.pointer none) ∧ w = w' := by
  have h := taFJ p
  go_enter Tryd.func35, Tryd.ntmps35
  go_wp2
  go_ret
  exact ⟨rfl, rfl⟩
theorem asfault_o (p : Value) (w : World) :
    Calls Tryd.prog 35 #[.iface 93 p] w fun e w' => e = .returned (.pointer none) ∧ w = w' := by
  have h := taFO p
  go_enter Tryd.func35, Tryd.ntmps35
  go_wp2
  go_ret
  exact ⟨rfl, rfl⟩

theorem errInfo : (Tryd.prog.info? 24).map (fun i => (i.zero, i.size, i.bytes)) = some (some .nilIface, 1, 16) := by kernel_rfl
theorem strInfo : (Tryd.prog.info? 9).map (fun i => (i.zero, i.size, i.bytes)) = some (some (.string ⟨#[]⟩), 1, 16) := by kernel_rfl
theorem intInfo : (Tryd.prog.info? 3).map (fun i => (i.zero, i.size, i.bytes)) = some (some (.int .i64 0), 1, 8) := by kernel_rfl
theorem recInfo : (Tryd.prog.info? 27).map (fun i => (i.zero, i.size, i.bytes)) = some (some (.agg #[.int .i64 0, .int .i64 0, .string ⟨#[]⟩, .slice none 0 0]), 4, 56) := by kernel_rfl

/-- The answer is a new row of the values us. -/
def RetRow (w : World) (t : TypeId) (size n : Nat) (us : List Value) (e : Ending) (w' : World) : Prop := ∃ v, e = .returned v ∧ w'.ownsRow w.heap.size t size v n us ∧ Below w.heap.size w w'

end Go.Proofs.YteacjahncngoiaaDoor
