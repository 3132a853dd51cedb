/- indexOf: where the first property of an identifier stands. -/
import Derived.Test.YtcobklfimlblgaaDoorPrRow
namespace Go.Proofs.YtcobklfimlblgaaDoor
open Go.RowKit

end Go.Proofs.YtcobklfimlblgaaDoor
