/- What the given rows list of the package-level variables is what the walks ask of memory. -/
import Derived.Test.YteacjahncngoiaaDoorRows
import Derived.Test.YteacjahncngoiaaDoorFaCode
import Derived.LaidHandle
import Derived.LaidLaws
import Derived.LaidMore
import Derived.Lib.LaidTab
import Derived.MakeChecks
import Derived.LaidByTextLater
namespace Go.Proofs.YteacjahncngoiaaDoor
open Go.Shelf Go.RowKit

/-- The list that the rows of this seat bear (all rows bear the same). -/
def laidTabs : List (String × DataW Unit) := Rows.faultCodesRow.laid

theorem g_error : Tryd.prog.globalNamed (laidName 3) = some 0 := by kernel_rfl
theorem err_row : ((List.range Tryd.prog.types.size).filter fun t => Tryd.prog.rowNamed t [101, 114, 114, 111, 114]) = [24] := by kernel_rfl

theorem handle_of {W : World} (h : laidMetH Tryd.prog laidTabs W) : W.cell? ⟨0, 0, none⟩ = some (.iface 97 (.agg #[.pointer (some ⟨4, 24, none⟩)])) := by
  have h' : laidMet Tryd.prog (laidTabs.filter fun x => x.2.handleName?.isNone) W ∧ handlesMet Tryd.prog [(laidName 3, Rows.laid_errors_errorType)] W := h
  obtain ⟨name, u, ty, e1, e2, e3, e4, e5⟩ := h'.2 _ (List.mem_singleton.2 rfl)
  have en : name = [101, 114, 114, 111, 114] := (Option.some.inj e1).symm
  subst en
  have hu : some u = some 97 := e2.symm.trans (by kernel_rfl)
  obtain rfl := (Option.some.inj hu).symm
  have hm : ty ∈ (List.range Tryd.prog.types.size).filter fun t => Tryd.prog.rowNamed t [101, 114, 114, 111, 114] := List.mem_filter.2 ⟨List.mem_range.2 e3, e4⟩
  rw [err_row] at hm
  obtain rfl := List.mem_singleton.1 hm
  have hh : typeHandle Tryd.prog 24 = .pointer (some ⟨4, 24, none⟩) := by kernel_rfl
  rw [hh] at e5
  simpa using World.var?_cell g_error e5 0

theorem g_pow : Tryd.prog.globalNamed (laidName 2) = some 1 := by kernel_rfl
theorem t_pow : (Tryd.prog.globals[1]?).map (·.type) = some 124 := by kernel_rfl
set_option maxRecDepth 100000 in
theorem pow_data : (Rows.laid_internal_strconv_uint64pow10 : DataW Unit) = Lib.tabData .u64 Lib.pow10Tab := by kernel_rfl
set_option maxRecDepth 100000 in
theorem tabs_of {W : World} (h : laidMetH Tryd.prog laidTabs W) : Tabs W := by
  refine ⟨handle_of h, ?_⟩
  have h' : laidMet Tryd.prog [((laidName 0), Rows.laid_math_bits_deBruijn32tab), ((laidName 1), Rows.laid_math_bits_deBruijn64tab), ((laidName 2), Rows.laid_internal_strconv_uint64pow10)] W ∧ handlesMet Tryd.prog [(laidName 3, Rows.laid_errors_errorType)] W := h
  obtain ⟨ps, ⟨_, _, _, _, _, _, _, _, _, _, hv, _⟩, _⟩ := h'.1
  obtain ⟨_, _, _, _, _, _, _, _, _, _, hv, _⟩ := hv
  obtain ⟨g, t, cs, fuel, p, q, hg, ht, hvar, hd, _, _⟩ := hv
  obtain rfl := Option.some.inj (g_pow.symm.trans hg)
  obtain rfl := Option.some.inj (t_pow.symm.trans ht)
  rw [pow_data] at hd
  show W.var? Tryd.prog (laidName 2) = _
  rw [hvar, ← Lib.cells_of_tab Tryd.underlying124 Tryd.underlying117 (by kernel_rfl) (by kernel_rfl) hd]

theorem room_of {W : World} (h : laidMetH Tryd.prog laidTabs W) : 4 ≤ W.heap.size := by
  have h' : laidMet Tryd.prog [((laidName 0), Rows.laid_math_bits_deBruijn32tab), ((laidName 1), Rows.laid_math_bits_deBruijn64tab), ((laidName 2), Rows.laid_internal_strconv_uint64pow10)] W ∧ handlesMet Tryd.prog [(laidName 3, Rows.laid_errors_errorType)] W := h
  obtain ⟨ps, ⟨_, _, _, _, _, _, _, _, _, _, hv, _⟩, _⟩ := h'.1
  obtain ⟨g, t, cs, fuel, p, q, hg, ht, hvar, hd, _, _⟩ := hv
  have hg3 : Tryd.prog.globalNamed (laidName 1) = some 3 := by kernel_rfl
  unfold World.var? at hvar
  rw [hg3] at hvar
  simp only [Option.bind_some] at hvar
  rcases Nat.lt_or_ge 3 W.heap.size with h1 | h1
  · omega
  · rw [Array.getElem?_eq_none h1] at hvar; cases hvar

theorem door_met (os : Os) (args : Array Value) : laidMetH Tryd.prog laidTabs ((World.doorLaid Tryd.prog 400 os).forCall (fun _ _ => 0) ⟨#[], args, []⟩).memory :=
  laidMetH_of_parts3 (fuel := 8) (laidMet_of_run' 8 (by kernel_rfl) (by kernel_rfl)) (by kernel_rfl) (by kernel_rfl)
end Go.Proofs.YteacjahncngoiaaDoor
