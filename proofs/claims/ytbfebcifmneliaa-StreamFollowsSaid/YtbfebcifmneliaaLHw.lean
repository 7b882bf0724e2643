/- StreamFollows: what one stream has behind a place makes another one that stands there go on just so. No condition. -/
import Derived.Test.YtbfebcifmneliaaB06
namespace Go.Proofs.Ytbfebcifmneliaa
theorem streamFollows_all : Rows.StreamFollowsSaid := follows12_holds streamCalls
end Go.Proofs.Ytbfebcifmneliaa
