/- The document's function that reads fixed numbers answers the plain number, place and code. -/
import Derived.Test.YtlfgndhdifpngaaDoorVarRead
namespace Go.Proofs.YtlfgndhdifpngaaDoor
open Go.RowKit

end Go.Proofs.YtlfgndhdifpngaaDoor
