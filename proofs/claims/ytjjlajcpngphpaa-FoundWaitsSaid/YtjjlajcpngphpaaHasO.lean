/- Who is among them: the package's Has. -/
import Derived.Test.YtjjlajcpngphpaaSlices
import Derived.Test.YtjjlajcpngphpaaOwnI
import Derived.Test.YtjjlajcpngphpaaHasA
namespace Go.Proofs.Ytjjlajcpngphpaa
open Go.RowKit

end Go.Proofs.Ytjjlajcpngphpaa
