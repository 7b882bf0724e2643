/- GiftFreezes is proved: the snapshot of a place, a clock, a past and counts is the document's bytes. No condition. -/
import Derived.Test.YtfpgfclmmdihjaaB10
namespace Go.Proofs.Ytfpgfclmmdihjaa
theorem giftFreezes_all : Rows.GiftFreezesSaid := freezes17_holds giftCalls
end Go.Proofs.Ytfpgfclmmdihjaa
