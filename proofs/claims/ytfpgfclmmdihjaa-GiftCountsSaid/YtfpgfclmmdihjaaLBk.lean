/- GiftCounts is proved: the counts that any text begins with are the document's, and those that entries make are read back as they were written. No condition. -/
import Derived.Test.YtfpgfclmmdihjaaB10
namespace Go.Proofs.Ytfpgfclmmdihjaa
theorem giftCounts_all : Rows.GiftCountsSaid := counts17_holds giftCalls
end Go.Proofs.Ytfpgfclmmdihjaa
