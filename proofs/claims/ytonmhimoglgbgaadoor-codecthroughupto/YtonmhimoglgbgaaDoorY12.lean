import Derived.Test.YtonmhimoglgbgaaDoorY11
namespace Go.Proofs.YtonmhimoglgbgaaDoor
open Go.RowKit Cod

end Go.Proofs.YtonmhimoglgbgaaDoor
