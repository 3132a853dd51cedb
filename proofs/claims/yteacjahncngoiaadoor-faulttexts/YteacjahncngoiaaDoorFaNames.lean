/- The name of the table of powers of ten, as the given rows list it. -/
import Derived.Test.YteacjahncngoiaaDoorRows
namespace Go.Proofs.YteacjahncngoiaaDoor

/-- The names of the listed package-level variables. -/
def laidName (i : Nat) : String := (Rows.faultCodesRow.laid.map Prod.fst).getD i ""
def powName : String := laidName 2
end Go.Proofs.YteacjahncngoiaaDoor
