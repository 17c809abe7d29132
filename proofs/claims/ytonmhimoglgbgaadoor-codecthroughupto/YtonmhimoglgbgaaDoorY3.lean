import Derived.Test.YtonmhimoglgbgaaDoorY2
import Derived.Test.YtonmhimoglgbgaaDoorU3
namespace Go.Proofs.YtonmhimoglgbgaaDoor
open Go.RowKit Cod

end Go.Proofs.YtonmhimoglgbgaaDoor
