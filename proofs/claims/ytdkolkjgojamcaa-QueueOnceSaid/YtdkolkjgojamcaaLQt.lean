/- QueueOnce: an acknowledgement that came changes nothing; what is acknowledged in two goes is acknowledged. No condition. -/
import Derived.Test.YtdkolkjgojamcaaB05
namespace Go.Proofs.Ytdkolkjgojamcaa
theorem queueOnce_all : Rows.QueueOnceSaid := once13_holds queueCalls
end Go.Proofs.Ytdkolkjgojamcaa
