/- What the given rows list of the library's tables is what the decoder asks of memory. -/
import Derived.Test.YtemfcaaoobjgkaaGreatDoorRows
import Derived.Test.YtemfcaaoobjgkaaGreatDoorTxDec
import Derived.Lib.LaidU8
import Derived.MakeChecks
namespace Go.Proofs.YtemfcaaoobjgkaaGreatDoor
open Go.Shelf

set_option maxRecDepth 100000 in
theorem accept_eq : (Rows.laid_unicode_utf8_acceptRanges : DataW Unit) = Lib.acceptData := by kernel_rfl
set_option maxRecDepth 100000 in
theorem first_eq : Rows.laid_unicode_utf8_first = Lib.firstData := by kernel_rfl

/-- The list that the rows of this seat bear (all rows bear the same). -/
def laidTabs : List (String × DataW Unit) := Rows.streamFeedsRow.laid

theorem tabs_of {W : World} (h : laidMetH Tryz.prog laidTabs W) : Tabs W := by
  rw [MakeChecks.laidMetH_plain _ _ _ (by kernel_rfl)] at h
  have h1 := Lib.laidMet.reads (l := [_, _]) h (.head _)
  have h2 := Lib.laidMet.reads (l := [_, _]) h (.tail _ (.head _))
  rw [accept_eq] at h1
  rw [first_eq] at h2
  exact utf8Tabs_of_reads (ρ := decRen) { decLays with } ⟨by kernel_rfl, by kernel_rfl, by kernel_rfl, by kernel_rfl, by kernel_rfl, by kernel_rfl, by kernel_rfl⟩ h2 h1

end Go.Proofs.YtemfcaaoobjgkaaGreatDoor
