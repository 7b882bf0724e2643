/- QueueGrants: never is more sent than was granted, nor what was acknowledged, nor out of order. No condition. -/
import Derived.Test.YtdkolkjgojamcaaB05
namespace Go.Proofs.Ytdkolkjgojamcaa
theorem queueGrants_all : Rows.QueueGrantsSaid := grants13_holds queueCalls
end Go.Proofs.Ytdkolkjgojamcaa
