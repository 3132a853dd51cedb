/- indexOf: where the first property of an identifier stands. -/
import Derived.Test.YtjajandjdclifaaPrRow
namespace Go.Proofs.Ytjajandjdclifaa
open Go.RowKit

end Go.Proofs.Ytjajandjdclifaa
