/- QueuePlays: behind any steps the queue, what may be sent, and its bytes are the document's; and it is as it must be. No condition. -/
import Derived.Test.YtdkolkjgojamcaaB05
namespace Go.Proofs.Ytdkolkjgojamcaa
theorem queuePlays_all : Rows.QueuePlaysSaid := plays13_holds queueCalls
end Go.Proofs.Ytdkolkjgojamcaa
