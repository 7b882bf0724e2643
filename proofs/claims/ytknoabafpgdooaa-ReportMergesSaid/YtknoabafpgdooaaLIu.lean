/- ReportMerges: any reports, merged one by one, are the document's. No condition. -/
import Derived.Test.YtknoabafpgdooaaB05
namespace Go.Proofs.Ytknoabafpgdooaa
theorem reportMerges_all : Rows.ReportMergesSaid := merges14_holds reportCalls
end Go.Proofs.Ytknoabafpgdooaa
