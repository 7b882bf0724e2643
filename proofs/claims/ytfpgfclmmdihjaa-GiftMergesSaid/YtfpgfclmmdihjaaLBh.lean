/- GiftMerges is proved: which of two gifts takes the other's place, a list with one more merged in, and whether a gift is still wanted, are the document's. No condition. -/
import Derived.Test.YtfpgfclmmdihjaaB10
namespace Go.Proofs.Ytfpgfclmmdihjaa
theorem giftMerges_all : Rows.GiftMergesSaid := merges17_holds giftCalls
end Go.Proofs.Ytfpgfclmmdihjaa
