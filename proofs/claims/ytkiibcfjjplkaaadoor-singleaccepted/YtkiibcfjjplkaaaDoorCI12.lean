import Derived.Test.YtkiibcfjjplkaaaDoorCI11
namespace Go.Proofs.YtkiibcfjjplkaaaDoor
open Go.RowKit
end Go.Proofs.YtkiibcfjjplkaaaDoor
