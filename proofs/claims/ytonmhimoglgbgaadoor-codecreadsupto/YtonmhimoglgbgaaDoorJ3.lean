import Derived.Test.YtonmhimoglgbgaaDoorJ2
import Derived.Test.YtonmhimoglgbgaaDoorG5
namespace Go.Proofs.YtonmhimoglgbgaaDoor
open Go.RowKit Cod

end Go.Proofs.YtonmhimoglgbgaaDoor
