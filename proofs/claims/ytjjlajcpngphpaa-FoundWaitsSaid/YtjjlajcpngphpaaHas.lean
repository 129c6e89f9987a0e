/- Who is among them: the package's Has, the document's Among. -/
import Derived.Test.YtjjlajcpngphpaaHasO
import Derived.Test.YtjjlajcpngphpaaOwnI
import Derived.Test.YtjjlajcpngphpaaHasA
namespace Go.Proofs.Ytjjlajcpngphpaa
open Go.RowKit

end Go.Proofs.Ytjjlajcpngphpaa
