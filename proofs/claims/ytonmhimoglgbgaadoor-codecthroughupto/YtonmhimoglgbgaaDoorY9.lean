import Derived.Test.YtonmhimoglgbgaaDoorY8
namespace Go.Proofs.YtonmhimoglgbgaaDoor
open Go.RowKit Cod

end Go.Proofs.YtonmhimoglgbgaaDoor
