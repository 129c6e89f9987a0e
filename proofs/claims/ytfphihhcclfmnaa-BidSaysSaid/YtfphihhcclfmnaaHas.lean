/- Who is among them: the package's Has, the document's Among. -/
import Derived.Test.YtfphihhcclfmnaaSlices
import Derived.Test.YtfphihhcclfmnaaOwnI
import Derived.Test.YtfphihhcclfmnaaHasA
namespace Go.Proofs.Ytfphihhcclfmnaa
open Go.RowKit

end Go.Proofs.Ytfphihhcclfmnaa
