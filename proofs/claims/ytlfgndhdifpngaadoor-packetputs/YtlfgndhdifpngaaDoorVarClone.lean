/- strings.Clone answers the same bytes. -/
import Derived.Test.YtlfgndhdifpngaaDoorProg
import Derived.Shelf.Strconv.Clone
import Derived.WalkKit
import Derived.KernelRfl
namespace Go.Proofs.YtlfgndhdifpngaaDoor
open Go.Shelf Go.RowKit

end Go.Proofs.YtlfgndhdifpngaaDoor
