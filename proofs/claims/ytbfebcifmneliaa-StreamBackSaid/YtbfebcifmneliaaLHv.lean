/- StreamBack: a stream is read from its bytes as it was; bytes that are read are those of what is read. No condition. -/
import Derived.Test.YtbfebcifmneliaaB06
namespace Go.Proofs.Ytbfebcifmneliaa
theorem streamBack_all : Rows.StreamBackSaid := back12_holds streamBoth
end Go.Proofs.Ytbfebcifmneliaa
