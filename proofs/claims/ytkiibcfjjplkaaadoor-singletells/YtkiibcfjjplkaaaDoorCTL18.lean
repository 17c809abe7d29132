import Derived.Test.YtkiibcfjjplkaaaDoorCTL15
import Derived.Test.YtkiibcfjjplkaaaDoorCO16
namespace Go.Proofs.YtkiibcfjjplkaaaDoor
open Go.RowKit
end Go.Proofs.YtkiibcfjjplkaaaDoor
