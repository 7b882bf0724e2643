/- StreamPlays: behind any steps the stream, what is behind any place, its least counter and its bytes are the document's. No condition. -/
import Derived.Test.YtbfebcifmneliaaB06
namespace Go.Proofs.Ytbfebcifmneliaa
theorem streamPlays_all : Rows.StreamPlaysSaid := plays12_holds streamCalls
end Go.Proofs.Ytbfebcifmneliaa
