import Derived.Test.YtkiibcfjjplkaaaDoorCTL23
namespace Go.Proofs.YtkiibcfjjplkaaaDoor
open Go.RowKit
theorem sizeSpn : (Tryd.prog.info? 38).map (·.size) = some 2 := by kernel_rfl
end Go.Proofs.YtkiibcfjjplkaaaDoor
