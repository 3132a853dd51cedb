/- The name of the table of powers of ten, as the given rows list it. -/
import Derived.Test.YtkdojbmimenalaaDoorRows
namespace Go.Proofs.YtkdojbmimenalaaDoor

/-- The names of the listed package-level variables. -/
def laidName (i : Nat) : String := (Rows.faultCodesRow.laid.map Prod.fst).getD i ""
def powName : String := laidName 2
end Go.Proofs.YtkdojbmimenalaaDoor
