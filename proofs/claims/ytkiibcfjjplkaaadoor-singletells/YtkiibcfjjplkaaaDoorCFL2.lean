import Derived.Test.YtkiibcfjjplkaaaDoorCO52
import Derived.Test.YtkiibcfjjplkaaaDoorCO23
namespace Go.Proofs.YtkiibcfjjplkaaaDoor
open Go.RowKit
theorem Tb.next {w w' : World} (h : Tb w) (hb : Below w.heap.size w w') : Tb w' := h.below hb h.lt
theorem Tabs.next' {w w' : World} (h : Tabs w) (hb : Below w.heap.size w w') : Tabs w' := h.below hb h.lt
end Go.Proofs.YtkiibcfjjplkaaaDoor
