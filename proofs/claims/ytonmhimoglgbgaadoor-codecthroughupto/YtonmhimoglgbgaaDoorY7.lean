import Derived.Test.YtonmhimoglgbgaaDoorY3
namespace Go.Proofs.YtonmhimoglgbgaaDoor
open Go.RowKit Cod

end Go.Proofs.YtonmhimoglgbgaaDoor
