/- StreamLeast: no operation of a stream has a counter below the least one, and one has it; settled, it has no lower one. No condition. -/
import Derived.Test.YtbfebcifmneliaaB06
namespace Go.Proofs.Ytbfebcifmneliaa
theorem streamLeast_all : Rows.StreamLeastSaid := least12_holds streamCalls
end Go.Proofs.Ytbfebcifmneliaa
