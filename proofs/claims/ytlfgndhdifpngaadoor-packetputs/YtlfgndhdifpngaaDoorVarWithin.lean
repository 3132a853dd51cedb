/- Whether a place lies within a string. -/
import Derived.Test.YtlfgndhdifpngaaDoorVarBytes
namespace Go.Proofs.YtlfgndhdifpngaaDoor
open Go.RowKit

end Go.Proofs.YtlfgndhdifpngaaDoor
